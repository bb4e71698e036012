import Derived.Test.YtldacjpkblffbabYib
namespace Go.Proofs.Ytldacjpkblffbab
open Go.RowKit Gf2
set_option linter.unusedVariables false

-- layer 16: Join of the program
/-- copy to a piece of a row, which may be empty. -/
theorem copyto8 (w : World) {g o N dl cap : Nat} {F : Nat → Nat} (hr : Rw w g N F) {a : Option Addr} (ha : 0 < dl → a = some ⟨g, o, none⟩) (hd : o + dl ≤ N) {v : Value} {n : Nat} {S : Nat → Nat} (hv : Rb w v n S) :
    ∃ w', (Builtin.copy_ #[24, 24] 3 #[.slice a dl cap, v]).run Try.prog w = .ok (.int .i64 ((min dl n : Nat) : Int)) w' ∧ Rw w' g N (pl F o (min dl n) S) ∧ Only g w w' := by
  obtain ⟨h1, h2, x, cx, rfl, h5, h6, h4⟩ := hv
  by_cases h0 : dl = 0
  · subst h0
    refine ⟨w, ?_, hr.congr (fun i hi => (pl_out (by omega)).symm), Only.refl _ _⟩
    have := run_copy_none (P := Try.prog) w 24 24 3 5 a x 0 cap n cx Try.underlying24 info_u8s (Nat.min_zero n)
    rw [this, Nat.zero_min]
    rfl
  · rw [ha (by omega)]
    obtain ⟨w', r1, r2, r3⟩ := copy8_min w hr (o := o) (dl := dl) (cap := cap) (a := x) (m := n) (n := min dl n) (cap' := cx) (S := S) (fun i hi => h2 i (by omega)) (fun h9 => by
      obtain ⟨b, p, e, hl, hc⟩ := h4 (by omega)
      exact ⟨b, p, e, fun i hi => hc i (by omega)⟩) hd (by omega) (by omega) (Nat.min_comm _ _)
    exact ⟨w', r1, r2, r3⟩
/-- x[:m] of lists of bytes. -/
theorem head16 (x : Option Addr) (n cx m : Nat) (hm : m ≤ cx) : ∃ x', (∀ b o, x = some ⟨b, o, none⟩ → x' = some ⟨b, o, none⟩) ∧ ∀ W : World, (Instr.slice 27 (.slice x n cx) none (some (.int .i64 (m : Int))) none).run Try.prog W = .ok (.slice x' m cx) W := by
  have he : Try.prog.elem 27 = 24 := by kernel_rfl
  have hsz : ∀ W : World, (sizeOf 24).run Try.prog W = .ok 1 W := fun W => by
    obtain ⟨i, hi, -, hs, -⟩ := elm_l8.info
    simp [sizeOf, typeInfo, hi, hs]
  have hu : Try.prog.underlying 27 = some (.slice (Try.prog.elem 27)) := by rw [he]; exact Try.underlying27
  refine ⟨if cx = 0 then x else x.map (·.add (0 * 1)), fun b o e => ?_, fun W => ?_⟩
  · subst e
    split
    · rfl
    · show some ((⟨b, o, none⟩ : Addr).add (0 * 1)) = _
      rw [Addr.add_lit]; rfl
  · have h := run_slice_h (P := Try.prog) (w := W) 27 x n cx hu .i64 (m : Int) (by omega) (by omega)
    rw [h, he, hsz]
    simp only [Result.andThen, sliced, Int.toNat_natCast, Nat.sub_zero]
theorem Lb.head {w : World} {x x' : Option Addr} {c cx k : Nat} {n : Nat → Nat} {S : Nat → Nat → Nat} (h : Lb w (.slice x c cx) c n S) (hk : k ≤ c) (hx : ∀ b o, x = some ⟨b, o, none⟩ → x' = some ⟨b, o, none⟩) : Lb w (.slice x' k cx) k n S := by
  obtain ⟨V, ⟨h1, a, cap, h3, h5, h6, h4⟩, hV⟩ := h
  cases h3
  refine ⟨V, ⟨by omega, x', cx, rfl, by omega, h6, fun h0 => ?_⟩, fun i hi => hV i (by omega)⟩
  obtain ⟨b, o, e, hl, hc⟩ := h4 (by omega)
  exact ⟨b, o, hx b o e, hl, fun i hi => hc i (by omega)⟩
/-- Join's error; l is the shards' length. -/
def jne (f k m : Int) (c : Nat) (n : Nat → Nat) (N : Int) : Int := if prm f k m = 0 then (if (c : Int) < k then 160 else if aeb n k.toNat then 161 else if ole f (scf (some 0) n k.toNat) = 0 then (if N < 0 ∨ k * olv f (scf (some 0) n k.toNat) < N then 164 else 0) else ole f (scf (some 0) n k.toNat)) else prm f k m
/-- the bytes of the shards behind one another. -/
def jnb (l : Nat) (S : Nat → Nat → Nat) (i : Nat) : Nat := S (i / l) (i % l)
/-- N bytes in new memory. -/
structure Jn16 (w w' : World) (u : Value) (N : Nat) (F : Nat → Nat) : Prop where
  bel : Below w.heap.size w w'
  row : ∃ g, u = .slice (some ⟨g, 0, none⟩) N N ∧ w.heap.size ≤ g ∧ Rw w' g N F
/-- what Join answers. -/
structure JnA (f k m : Int) (c : Nat) (n : Nat → Nat) (S : Nat → Nat → Nat) (N : Int) (w w' : World) (u : Value) : Prop where
  bel : Below w.heap.size w w'
  no : jne f k m c n N ≠ 0 → u = .slice none 0 0
  yes : jne f k m c n N = 0 → ∃ l, scf (some 0) n k.toNat = some l ∧ 1 ≤ l ∧ Jn16 w w' u N.toNat (jnb l S)
theorem jna_no {f k m : Int} {c : Nat} {n : Nat → Nat} {S : Nat → Nat → Nat} {N : Int} {w w' : World} {z : Int} (h : jne f k m c n N = z) (hz : z ≠ 0) (hb : Below w.heap.size w w') : ∃ u, Ending.returned (.tuple #[.slice none 0 0, .int .i64 z]) = .returned (.tuple #[u, .int .i64 (jne f k m c n N)]) ∧ JnA f k m c n S N w w' u :=
  ⟨_, by rw [h], hb, fun _ => rfl, fun e => absurd (h.symm.trans e) hz⟩
theorem join_nums {k l : Nat} (h : k ≤ 65535) (hl : l ≤ 140737488355328) : ∃ p : Nat, Hid (p = k * l) ∧ wrap64 ((k : Int) * (l : Int)) = (p : Int) := by
  refine ⟨k * l, rfl, ?_⟩
  have h1 : k * l ≤ 65535 * 140737488355328 := Nat.mul_le_mul h hl
  rw [← Int.natCast_mul]
  generalize k * l = p at h1
  unfold wrap64
  omega
/-- the step of the bytes. -/
theorem join_step {l N t : Nat} {S : Nat → Nat → Nat} (hl : 1 ≤ l) (F : Nat → Nat) (hF : ∀ i, i < N → F i = if i < min (t * l) N then jnb l S i else 0) : ∀ i, i < N → pl F (min (t * l) N) (min (N - min (t * l) N) l) (S t) i = if i < min ((t + 1) * l) N then jnb l S i else 0 := by
  intro i hi
  have e1 : (t + 1) * l = t * l + l := by rw [Nat.add_mul, Nat.one_mul]
  unfold pl
  by_cases h1 : i < min (t * l) N
  · rw [if_neg (by omega), hF i hi, if_pos h1, if_pos (by omega)]
  · by_cases h2 : i < min ((t + 1) * l) N
    · rw [if_pos (by omega), if_pos h2]
      have hp : min (t * l) N = t * l := by omega
      rw [hp]
      unfold jnb
      obtain ⟨j, rfl⟩ : ∃ j, i = t * l + j := ⟨i - t * l, by omega⟩
      have hj : j < l := by omega
      rw [Nat.add_sub_cancel_left, Nat.mul_comm t l, Nat.mul_add_div (by omega), Nat.div_eq_of_lt hj, Nat.mul_add_mod, Nat.mod_eq_of_lt hj, Nat.add_zero]
    · rw [if_neg (by omega), hF i hi, if_neg h1, if_neg h2]
theorem join_next {l N t : Nat} : min (t * l) N + min (N - min (t * l) N) l = min ((t + 1) * l) N := by
  rw [Nat.add_mul, Nat.one_mul]
  generalize t * l = x
  omega
set_option maxHeartbeats 4000000 in
set_option maxRecDepth 100000 in
theorem join16 (f k m N : Int) (v : Value) (c : Nat) (n : Nat → Nat) (S : Nat → Nat → Nat) (w : World) (hk : I64 k) (hN : I64 N) (h : Lb w v c n S) (hcb : c ≤ 281474976710656) (hnb : ∀ i, i < c → n i ≤ 140737488355328) (hNb : prm f k m = 0 → k.toNat ≤ c → ∀ l, scf (some 0) n k.toNat = some l → k.toNat * l ≤ 140737488355328) :
    Calls Try.prog 11 #[.int .i64 f, .int .i64 k, .int .i64 m, v, .int .i64 N] w fun e w' => ∃ u, e = .returned (.tuple #[u, .int .i64 (jne f k m c n N)]) ∧ JnA f k m c n S N w w' u := by
  have c1 := fun x => params16 f k m x hk
  by_cases hp : prm f k m = 0
  case neg =>
    have HE : Hid (∃ u, Ending.returned (.tuple #[.slice none 0 0, .int .i64 (prm f k m)]) = .returned (.tuple #[u, .int .i64 (jne f k m c n N)]) ∧ JnA f k m c n S N w w u) := jna_no (by unfold jne; rw [if_neg hp]) hp (Below.refl _ _)
    obtain ⟨a, cap, rfl⟩ := lb_form h
    generalize prm f k m = z at *
    have D1 : (z != 0) = true := by simpa using hp
    have D2 : (z == 0) = false := by simpa using hp
    clear h hk hN hcb hnb hNb
    go_enter Try.func11, Try.ntmps11
    go_wp2_with (go_at_call 22; ((with_reducible refine (c1 _).mono ?_); (rintro e w9 ⟨rfl, hw9⟩; have hw9 := hw9.symm; subst hw9)))
    go_ret2
    exact HE.out
  case pos =>
  rw [hp] at c1
  obtain ⟨k, m, rfl, rfl⟩ := prm_nat hp
  have hvp := prm_ok.1 hp
  have hk65 : k ≤ 65535 := by have := hvp.sum; have := hvp.hm; omega
  have hk1 : 1 ≤ k := by have := hvp.hk; omega
  by_cases hc : c < k
  · have HE : Hid (∃ u, Ending.returned (.tuple #[.slice none 0 0, .int .i64 160]) = .returned (.tuple #[u, .int .i64 (jne f k m c n N)]) ∧ JnA f k m c n S N w w u) := jna_no (by unfold jne; rw [if_pos hp, if_pos (by omega)]) (by decide) (Below.refl _ _)
    obtain ⟨a, cap, rfl⟩ := lb_form h
    clear h hk hN hcb hnb hNb hvp hk65 hk1 hp
    go_enter Try.func11, Try.ntmps11
    go_wp2_with (go_at_call 22; ((with_reducible refine (c1 _).mono ?_); (rintro e w9 ⟨rfl, hw9⟩; have hw9 := hw9.symm; subst hw9)))
    go_ret2
    exact HE.out
  · obtain ⟨a, cap, rfl⟩ := lb_form h
    have hcc : c ≤ cap := by obtain ⟨V, ⟨_, a', cap', e, h5, _⟩, _⟩ := h; cases e; exact h5
    obtain ⟨x', hx', hsl⟩ := head16 a c cap k (by omega)
    have hh := h.head (Nat.le_of_not_lt hc) hx'
    have hL : Ln w (.slice x' k cap) k n := hh.ln (by omega)
    have c2 := anyEmpty16 _ k n w hL
    have hjn : jne f k m c n N = if aeb n k then 161 else if ole f (scf (some 0) n k) = 0 then (if N < 0 ∨ k * olv f (scf (some 0) n k) < N then 164 else 0) else ole f (scf (some 0) n k) := by unfold jne; rw [if_pos hp, if_neg (by omega), Int.toNat_natCast]
    have hsl := hsl w
    cases ha : aeb n k
    case true =>
      rw [ha] at c2
      rw [ha, if_pos rfl] at hjn
      have HE : Hid (∃ u, Ending.returned (.tuple #[.slice none 0 0, .int .i64 161]) = .returned (.tuple #[u, .int .i64 (jne f k m c n N)]) ∧ JnA f k m c n S N w w u) := jna_no hjn (by decide) (Below.refl _ _)
      clear h hk hN hcb hnb hNb hvp hk65 hk1 hp hh hL hjn ha hx' hcc
      go_enter Try.func11, Try.ntmps11
      go_wp2_with (first | (go_at_call 22; ((with_reducible refine (c1 _).mono ?_); (rintro e w9 ⟨rfl, hw9⟩; have hw9 := hw9.symm; subst hw9))) | (go_at_call 23; ((with_reducible refine (c2).mono ?_); (rintro e w9 ⟨rfl, hw9⟩; have hw9 := hw9.symm; subst hw9))))
      go_ret2
      exact HE.out
    case false =>
      rw [ha] at c2
      rw [ha, if_neg (by decide)] at hjn
      have c3 := oneLength16 f w.heap.size 1 (fun _ => .slice x' k cap) (fun _ => k) (fun _ => n) _ (by decide) (lone16 w _ k n hL 27)
      rw [show sco (fun _ => k) (fun _ => n) 1 = scf (some 0) n k from rfl] at c3
      have hB := balloc16 w (.cells #[.slice x' k cap] 27)
      obtain ⟨q, hq⟩ : ∃ q, q = scf (some 0) n k := ⟨_, rfl⟩
      rw [← hq] at c3 hjn
      by_cases ho : ole f q = 0
      case neg =>
        rw [if_neg ho] at hjn
        have HE : Hid (∃ u, Ending.returned (.tuple #[.slice none 0 0, .int .i64 (ole f q)]) = .returned (.tuple #[u, .int .i64 (jne f k m c n N)]) ∧ JnA f k m c n S N w (w.alloc (.cells #[.slice x' k cap] 27)) u) := jna_no hjn ho hB
        generalize ole f q = z at *
        generalize olv f q = zv at *
        have D1 : (z != 0) = true := by simpa using ho
        have D2 : (z == 0) = false := by simpa using ho
        clear h hk hN hcb hnb hNb hvp hk65 hk1 hp hh hL hjn ha hx' hcc hq hB ho
        go_enter Try.func11, Try.ntmps11
        go_wp2_with (first | (go_at_call 22; ((with_reducible refine (c1 _).mono ?_); (rintro e w9 ⟨rfl, hw9⟩; have hw9 := hw9.symm; subst hw9))) | (go_at_call 23; ((with_reducible refine (c2).mono ?_); (rintro e w9 ⟨rfl, hw9⟩; have hw9 := hw9.symm; subst hw9))) | (go_at_call 24; ((with_reducible refine (c3).mono ?_); (rintro e w9 ⟨rfl, hw9⟩; have hw9 := hw9.symm; subst hw9))))
        go_ret2
        exact HE.out
      case pos =>
        obtain ⟨l, rfl⟩ : ∃ l, q = some l := by
          cases q with
          | none => cases ho
          | some l => exact ⟨l, rfl⟩
        have hodd : ¬ (f = 2 ∧ l % 2 = 1) := fun e => by rw [ole_odd e] at ho; cases ho
        rw [if_pos ho, olv_even hodd] at hjn
        rw [ho, olv_even hodd] at c3
        obtain ⟨hall, hall0⟩ := scf_all hq.symm
        have hl1 : 1 ≤ l := by
          rcases Nat.eq_zero_or_pos l with e | e
          · exact absurd (hall0 e 0 (by omega)) (aeb_no.1 ha 0 (by omega))
          · exact e
        have hnl : ∀ i, i < k → n i = l := fun i hi => by
          rcases hall i hi with e | e
          · exact absurd e (aeb_no.1 ha i hi)
          · exact e
        have hlb : l ≤ 140737488355328 := by rw [← hnl 0 (by omega)]; exact hnb 0 (by omega)
        obtain ⟨p, HP, Wp⟩ := join_nums hk65 hlb
        have hpb : p ≤ 140737488355328 := by rw [HP.out]; exact hNb hp (Nat.le_of_not_lt hc) l hq.symm
        have ekl : ((k : Int) * (l : Int)) = (p : Int) := by rw [HP.out, Int.natCast_mul]
        rw [ekl] at hjn
        by_cases hb : N < 0 ∨ (p : Int) < N
        · rw [if_pos hb] at hjn
          have HE : Hid (∃ u, Ending.returned (.tuple #[.slice none 0 0, .int .i64 164]) = .returned (.tuple #[u, .int .i64 (jne f k m c n N)]) ∧ JnA f k m c n S N w (w.alloc (.cells #[.slice x' k cap] 27)) u) := jna_no hjn (by decide) hB
          by_cases hb1 : N < 0
          · have D1 : decide (N < 0) = true := by simpa using hb1
            clear h hk hN hcb hnb hNb hvp hk65 hk1 hp hh hL hjn ha hx' hcc hq hB ho hb hb1 hall hall0 hl1 hnl hlb hpb ekl Wp hodd
            go_enter Try.func11, Try.ntmps11
            go_wp2_with (first | (go_at_call 22; ((with_reducible refine (c1 _).mono ?_); (rintro e w9 ⟨rfl, hw9⟩; have hw9 := hw9.symm; subst hw9))) | (go_at_call 23; ((with_reducible refine (c2).mono ?_); (rintro e w9 ⟨rfl, hw9⟩; have hw9 := hw9.symm; subst hw9))) | (go_at_call 24; ((with_reducible refine (c3).mono ?_); (rintro e w9 ⟨rfl, hw9⟩; have hw9 := hw9.symm; subst hw9))))
            go_ret2
            exact HE.out
          · have D1 : decide (N < 0) = false := by simpa using hb1
            have D2 : decide ((p : Int) < N) = true := decide_eq_true (by omega)
            clear h hk hN hcb hnb hNb hvp hk65 hk1 hp hh hL hjn ha hx' hcc hq hB ho hb hb1 hall hall0 hl1 hnl hlb hpb ekl hodd
            go_enter Try.func11, Try.ntmps11
            go_wp2_with (first | (go_at_call 22; ((with_reducible refine (c1 _).mono ?_); (rintro e w9 ⟨rfl, hw9⟩; have hw9 := hw9.symm; subst hw9))) | (go_at_call 23; ((with_reducible refine (c2).mono ?_); (rintro e w9 ⟨rfl, hw9⟩; have hw9 := hw9.symm; subst hw9))) | (go_at_call 24; ((with_reducible refine (c3).mono ?_); (rintro e w9 ⟨rfl, hw9⟩; have hw9 := hw9.symm; subst hw9))))
            go_ret2
            exact HE.out
        · rw [if_neg hb] at hjn
          obtain ⟨N, rfl⟩ := Int.eq_ofNat_of_zero_le (show 0 ≤ N by omega)
          have D1 : decide ((N : Int) < 0) = false := decide_eq_false (by omega)
          have D2 : ¬ p < N := by omega
          have hm8 := make_u8 N (by omega)
          obtain ⟨X, hX⟩ : ∃ X, X = w.alloc (.cells #[.slice x' k cap] 27) := ⟨_, rfl⟩
          rw [← hX] at c3 hB
          have r0 := made_rw N (by omega) X
          have sX : X.heap.size = w.heap.size + 1 := by rw [hX]; simp
          rw [sX] at r0
          have b1 : Below w.heap.size w (X.alloc (.cells (madeCells #[.int .u8 0] N) 5)) := bthen16 hB (balloc16 _ _)
          have HL : Hid (Lb w (.slice x' k cap) k n S ∧ (∀ i, i < k → n i = l) ∧ 1 ≤ l ∧ k ≤ 65535 ∧ p = k * l ∧ N ≤ p ∧ w.heap.size ≤ w.heap.size + 1 ∧ X = w.alloc (.cells #[.slice x' k cap] 27)) := ⟨hh, hnl, hl1, hk65, HP.out, by omega, Nat.le_succ _, hX⟩
          have HE : Hid (∀ w', Below w.heap.size w w' → Rw w' (w.heap.size + 1) N (jnb l S) → ∃ u, Ending.returned (.tuple #[.slice (some ⟨w.heap.size + 1, 0, none⟩) N N, .int .i64 0]) = .returned (.tuple #[u, .int .i64 (jne f k m c n N)]) ∧ JnA f k m c n S N w w' u) := fun w' hb' hr' => by
            refine ⟨_, by rw [hjn], hb', fun e => absurd hjn e, fun _ => ⟨l, by rw [Int.toNat_natCast]; exact hq.symm, hl1, hb', w.heap.size + 1, by rw [Int.toNat_natCast], Nat.le_succ _, by rw [Int.toNat_natCast]; exact hr'⟩⟩
          have H0 : Hid (Below w.heap.size w (X.alloc (.cells (madeCells #[.int .u8 0] N) 5)) ∧ Rw (X.alloc (.cells (madeCells #[.int .u8 0] N) 5)) (w.heap.size + 1) N (fun _ => 0)) := ⟨b1, r0⟩
          clear h hk hN hcb hnb hNb hvp hk65 hk1 hp hh hL hjn ha hx' hcc hq ho hb hall hall0 hl1 hnl hlb hpb ekl hodd hB r0 b1 sX
          rw [hX] at c3
          clear hX
          go_enter Try.func11, Try.ntmps11
          go_wp2_with (first | (go_at_call 22; ((with_reducible refine (c1 _).mono ?_); (rintro e w9 ⟨rfl, hw9⟩; have hw9 := hw9.symm; subst hw9))) | (go_at_call 23; ((with_reducible refine (c2).mono ?_); (rintro e w9 ⟨rfl, hw9⟩; have hw9 := hw9.symm; subst hw9))) | (go_at_call 24; ((with_reducible refine (c3).mono ?_); (rintro e w9 ⟨rfl, hw9⟩; have hw9 := hw9.symm; subst hw9))))
          clear c1 c2 c3 hsl hm8 Wp D1 D2
          rw [← HL.out.2.2.2.2.2.2.2]
          go_loopw [16, 59] (fun r i wr => ∃ (t : Nat) (a : Option Addr) (F : Nat → Nat), t ≤ k ∧ i = .int .i64 t ∧ r = .slice a (N - min (t * l) N) (N - min (t * l) N) ∧ (0 < N - min (t * l) N → a = some ⟨w.heap.size + 1, min (t * l) N, none⟩) ∧ Below w.heap.size w wr ∧ Rw wr (w.heap.size + 1) N F ∧ ∀ i, i < N → F i = if i < min (t * l) N then jnb l S i else 0) (fun _ i _ => k - (intOf i).toNat)
          case atStart => exact ⟨0, some ⟨w.heap.size + 1, 0, none⟩, fun _ => 0, Nat.zero_le _, rfl, by rw [Nat.zero_mul, Nat.zero_min, Nat.sub_zero], fun _ => by rw [Nat.zero_mul, Nat.zero_min], H0.out.1, H0.out.2, fun i hi => by rw [Nat.zero_mul, Nat.zero_min, if_neg (Nat.not_lt_zero _)]⟩
          case round =>
            obtain ⟨t, a, F, ht, rfl, rfl, ha, hb, hr, hF⟩ := hrel
            by_cases hlt : t < k
            · obtain ⟨hh, hnl, hl1, hk65, hpk, hNp, hX0, -⟩ := HL.out
              obtain ⟨V, ⟨-, ax, capx, e5, -, -, h4⟩, hV⟩ := Lb.below hh hb
              cases e5
              obtain ⟨bx, ox, rfl, -, hcx⟩ := h4 (by omega)
              have hrt := (hV t hlt).rb
              obtain ⟨y1, y2, ev⟩ : ∃ y1 y2, V t = .slice y1 (n t) y2 := by obtain ⟨_, _, y1, y2, e, _⟩ := hrt; exact ⟨y1, y2, e⟩
              have q1 := hcx t hlt
              rw [ev] at q1 hrt
              rw [hnl t hlt] at q1 hrt
              obtain ⟨w5, hrun, hr5, ho5⟩ := copyto8 wr hr ha (by omega) (cap := N - min (t * l) N) hrt
              obtain ⟨a2, ha2, hsl⟩ := from8 a (N - min (t * l) N) (N - min (t * l) N) (min (N - min (t * l) N) l) (by omega) (Nat.le_refl _)
              have e9 : N - min (t * l) N - min (N - min (t * l) N) l = N - min ((t + 1) * l) N := by have := join_next (l := l) (N := N) (t := t); omega
              have HD : Hid (Value.slice a2 (N - min (t * l) N - min (N - min (t * l) N) l) (N - min (t * l) N - min (N - min (t * l) N) l) = .slice a2 (N - min ((t + 1) * l) N) (N - min ((t + 1) * l) N) ∧ (0 < N - min ((t + 1) * l) N → a2 = some ⟨w.heap.size + 1, min ((t + 1) * l) N, none⟩) ∧ Below w.heap.size w w5 ∧ Rw w5 (w.heap.size + 1) N (pl F (min (t * l) N) (min (N - min (t * l) N) l) (S t)) ∧ ∀ i, i < N → pl F (min (t * l) N) (min (N - min (t * l) N) l) (S t) i = if i < min ((t + 1) * l) N then jnb l S i else 0) := by
                refine ⟨by rw [e9], fun h0 => ?_, hb.trans (ho5.below hX0), hr5, join_step hl1 F hF⟩
                have := ha2 _ _ (ha (by omega)) (by omega)
                rw [this, join_next]
              have ib : ((t : Nat) : Int) < (k : Int) := by omega
              have W1 := wrap_succ8 (j := t) (by unfold big; omega)
              have HX : Hid (t < k) := hlt
              obtain ⟨c5, hc5⟩ : ∃ c5, c5 = min (N - min (t * l) N) l := ⟨_, rfl⟩
              obtain ⟨L5, hL5⟩ : ∃ L5, L5 = N - min (t * l) N := ⟨_, rfl⟩
              rw [← hc5, ← hL5] at HD
              rw [← hL5] at hc5
              rw [← hL5, ← hc5] at hrun hsl
              rw [← hL5]
              clear hh hnl hl1 hk65 hpk hNp hX0 h4 hV hcx hrt ev hr5 ho5 ha2 e9 hlt hb hr hF ha hc5 hL5 ht HE H0
              go_wp2
              go_roundw
              case rel => exact ⟨t + 1, a2, _, HX.out, by first | rfl | (rw [W1]; rfl), HD.out.1, HD.out.2.1, HD.out.2.2.1, HD.out.2.2.2.1, HD.out.2.2.2.2⟩
              case measure => first | exact meas_lt8 HX.out | (rw [W1]; exact meas_lt8 HX.out)
            · have htl : ¬ ((t : Nat) : Int) < (k : Int) := fun e => hlt (Int.ofNat_lt.1 e)
              obtain rfl : t = k := by omega
              have HF : Hid _ := HE.out wr hb (hr.congr (fun i hi => by rw [hF i hi, if_pos (by have := HL.out.2.2.2.2.1; have := HL.out.2.2.2.2.2.1; omega)]))
              clear ha hb hr hF HL HE
              go_wp2
              go_ret2
              exact HF.out
end Go.Proofs.Ytldacjpkblffbab
