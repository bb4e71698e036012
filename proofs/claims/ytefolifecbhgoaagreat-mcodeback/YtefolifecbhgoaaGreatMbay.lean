import Derived.Test.YtefolifecbhgoaaGreatMbao
import Derived.Test.YtefolifecbhgoaaGreatMbah
import Derived.Test.YtefolifecbhgoaaGreatMbas
import Derived.Test.YtefolifecbhgoaaGreatMbat
import Derived.Test.YtefolifecbhgoaaGreatMbax
import Derived.Test.YtefolifecbhgoaaGreatMban
namespace Go.Proofs.YtefolifecbhgoaaGreat
open Go.RowKit Gf2
set_option linter.unusedVariables false

theorem Rdk.only {w : World} {g N n : Nat} {x : Option Addr} {rd : (Nat → Nat) → Nat → Nat} (h : Rdk w g N n x rd) : Reads w g N n x rd := by
  obtain ⟨b, q, e, hh⟩ := h
  exact ⟨b, q, e, fun w' F ho hF => hh w' F ho.kp hF⟩
theorem t9add_far (p : Addr) (lo hi c n g o N : Nat) (F S : Nat → Nat) (a x : Option Addr) (ca cx : Nat) (w : World) (hk : Ker w p lo hi) (hc : c < 256) (hn : n ≤ big) (hg : g < lo ∨ hi ≤ g) (hca : n ≤ ca) (hcx : n ≤ cx)
    (hR : Rw w g N F) (hd : 0 < n → a = some ⟨g, o, none⟩) (hoN : o + n ≤ N) (hx : Fk w g n x S) :
    Calls Tryz.prog 185 #[.pointer (some p), .int .u8 (c : Int), .slice a n ca, .slice x n cx] w fun e w' => e = .returned (.int .i64 0) ∧ Kp g w w' ∧ Rw w' g N (pl F o n (fun j => F (o + j) ^^^ fm 285 c (S j))) :=
  (kadd_gen p lo hi c n g o N F (fun _ => S) a x ca cx w hk hc hn hg hR (fun h => ⟨hd h, hoN⟩) (fun h => (hx.reads h).only)).mono fun e w' ⟨h1, h2, h3⟩ => ⟨h1, h2.kp, h3.congr (fun i _ => goes_far _ _ _ _ _ _)⟩
theorem n9add_far (p : Addr) (lo hi c n g o N : Nat) (F S : Nat → Nat) (a x : Option Addr) (ca cx : Nat) (w : World) (hk : Nk w p lo hi) (hc : c < 256) (hn : n ≤ big) (hg : g < lo ∨ hi ≤ g) (hca : n ≤ ca) (hcx : n ≤ cx)
    (hR : Rw w g N F) (hd : 0 < n → a = some ⟨g, o, none⟩) (hoN : o + n ≤ N) (hx : Fk w g n x S) :
    Calls Tryz.prog 189 #[.pointer (some p), .int .u8 (c : Int), .slice a n ca, .slice x n cx] w fun e w' => e = .returned (.int .i64 0) ∧ Kp g w w' ∧ Rw w' g N (pl F o n (fun j => F (o + j) ^^^ fm 285 c (S j))) :=
  (nadd_gen p lo hi c n g o N F (fun _ => S) a x ca cx w hk hc hn hg hR (fun h => ⟨hd h, hoN⟩) (fun h => hx.reads h)).mono fun e w' ⟨h1, h2, h3⟩ => ⟨h1, h2, h3.congr (fun i _ => goes_far _ _ _ _ _ _)⟩
theorem s9add_far (p : Addr) (lo hi c n g o N : Nat) (F S : Nat → Nat) (a x : Option Addr) (ca cx : Nat) (w : World) (hk : Sk w p lo hi) (hc : c < 256) (hn : n ≤ big) (hg : g < lo ∨ hi ≤ g) (hca : n ≤ ca) (hcx : n ≤ cx)
    (hR : Rw w g N F) (hd : 0 < n → a = some ⟨g, o, none⟩) (hoN : o + n ≤ N) (hx : Fk w g n x S) :
    Calls Tryz.prog 194 #[.pointer (some p), .int .u8 (c : Int), .slice a n ca, .slice x n cx] w fun e w' => e = .returned (.int .i64 0) ∧ Kp g w w' ∧ Rw w' g N (pl F o n (fun j => F (o + j) ^^^ fm 285 c (S j))) :=
  sadd_far p lo hi c n g o N F S a x ca cx hca hcx w hk hc hn hg hR hd hoN hx
def Kk (w : World) (T : TypeId) (q : Addr) (b lo mid : Nat) : Prop :=
  (b = 0 ∧ T = 98 ∧ Ker w q lo mid) ∨ (b = 1 ∧ T = 100 ∧ Nk w q lo mid) ∨ (b = 2 ∧ T = 102 ∧ Sk w q lo mid)
theorem Kk.hi {w : World} {T : TypeId} {q : Addr} {b lo mid : Nat} (h : Kk w T q b lo mid) : mid ≤ w.heap.size := by
  rcases h with ⟨-, -, h⟩ | ⟨-, -, h⟩ | ⟨-, -, h⟩
  · exact h.hi
  · exact h.hi
  · exact h.hi
theorem Kk.keep {w w' : World} {T : TypeId} {q : Addr} {b lo mid : Nat} (h : Kk w T q b lo mid) (hs : mid ≤ w'.heap.size) (hb : ∀ x, lo ≤ x → x < mid → w'.heap[x]? = w.heap[x]?) : Kk w' T q b lo mid := by
  rcases h with ⟨e, f, h⟩ | ⟨e, f, h⟩ | ⟨e, f, h⟩
  · exact .inl ⟨e, f, h.keep hs hb⟩
  · exact .inr (.inl ⟨e, f, h.keep hs hb⟩)
  · exact .inr (.inr ⟨e, f, h.keep hs hb⟩)
theorem Kk.le {w : World} {T : TypeId} {q : Addr} {b lo mid : Nat} (h : Kk w T q b lo mid) : b ≤ 2 := by
  rcases h with ⟨e, -⟩ | ⟨e, -⟩ | ⟨e, -⟩ <;> omega
def Ks (w : World) (p : Addr) (b lo hi : Nat) : Prop := ∃ g T q mid, p = ⟨g, 0, none⟩ ∧ lo ≤ g ∧ g < hi ∧ hi ≤ w.heap.size ∧ mid ≤ hi ∧ Kk w T q b lo mid ∧
  w.cell? ⟨g, 0, none⟩ = some (.iface T (.pointer (some q))) ∧ w.cell? ⟨g, 1, none⟩ = some (.int .i64 (b : Int))
theorem Ks.hi {w : World} {p : Addr} {b lo hi : Nat} (h : Ks w p b lo hi) : hi ≤ w.heap.size := by
  obtain ⟨g, T, q, mid, -, -, -, h, -⟩ := h
  exact h
theorem cell_block {w w' : World} {g : Nat} (q : Nat) (h : w'.heap[g]? = w.heap[g]?) : w'.cell? ⟨g, q, none⟩ = w.cell? ⟨g, q, none⟩ := by
  unfold World.cell?
  rw [h]
theorem Ks.keep {w w' : World} {p : Addr} {b lo hi : Nat} (h : Ks w p b lo hi) (hs : hi ≤ w'.heap.size) (hb : ∀ x, lo ≤ x → x < hi → w'.heap[x]? = w.heap[x]?) : Ks w' p b lo hi := by
  obtain ⟨g, T, q, mid, e, h1, h2, h3, h4, h5, h6, h7⟩ := h
  exact ⟨g, T, q, mid, e, h1, h2, hs, h4, h5.keep (Nat.le_trans h4 hs) (fun x hx hy => hb x hx (Nat.lt_of_lt_of_le hy h4)), (cell_block _ (hb g h1 h2)).trans h6, (cell_block _ (hb g h1 h2)).trans h7⟩
theorem ks_made {w : World} {T : TypeId} {q : Addr} {b lo : Nat} (ty : TypeId) (h : Kk w T q b lo w.heap.size) (hl : lo ≤ w.heap.size) :
    Ks (w.alloc (.cells #[.iface T (.pointer (some q)), .int .i64 (b : Int)] ty)) ⟨w.heap.size, 0, none⟩ b lo (w.alloc (.cells #[.iface T (.pointer (some q)), .int .i64 (b : Int)] ty)).heap.size :=
  ⟨w.heap.size, T, q, w.heap.size, rfl, hl, by simp, Nat.le_refl _, by simp, h.keep (by simp) (fun x _ hx => ((Below.refl w.heap.size w).alloc (Nat.le_refl _) _).block x hx), by simp, by simp⟩
end Go.Proofs.YtefolifecbhgoaaGreat
namespace Go.Proofs.YtefolifecbhgoaaGreat
open Go.RowKit Gf2
set_option linter.unusedVariables false

set_option maxHeartbeats 2000000 in
set_option maxRecDepth 100000 in
theorem isnil9_no (p : Addr) (bk lo hi : Nat) (w : World) (hk : Ks w p bk lo hi) :
    Calls Tryz.prog 115 #[.pointer (some p)] w fun e w' => e = .returned (.bool false) ∧ w' = w := by
  obtain ⟨g, T, q, mid, rfl, -, -, -, -, -, i0, i1⟩ := hk
  go_enter Tryz.func115, Tryz.ntmps115
  go_wp2
  go_ret
  exact ⟨rfl, rfl⟩
end Go.Proofs.YtefolifecbhgoaaGreat
namespace Go.Proofs.YtefolifecbhgoaaGreat
open Go.RowKit Gf2
set_option linter.unusedVariables false

set_option maxHeartbeats 2000000 in
set_option maxRecDepth 100000 in
theorem knew_table (w : World) :
    Calls Tryz.prog 29 #[.int .i64 0] w fun e w' => ∃ p, e = .returned (.tuple #[.pointer (some p), .int .i64 0]) ∧ Ks w' p 0 w.heap.size w'.heap.size ∧ Below w.heap.size w w' := by
  have c1 := tknew_any w
  go_enter Tryz.func29, Tryz.ntmps29
  go_wp2_with (go_at_call 47; (with_reducible refine c1.mono ?_); rintro e w1 ⟨q, rfl, hK, hb⟩)
  go_ret2
  exact ⟨⟨w1.heap.size, 0, none⟩, rfl, ks_made _ (.inl ⟨rfl, rfl, hK⟩) hb.size, hb.alloc hb.size _⟩
set_option maxHeartbeats 2000000 in
set_option maxRecDepth 100000 in
theorem knew_nibble (w : World) :
    Calls Tryz.prog 29 #[.int .i64 1] w fun e w' => ∃ p, e = .returned (.tuple #[.pointer (some p), .int .i64 0]) ∧ Ks w' p 1 w.heap.size w'.heap.size ∧ Below w.heap.size w w' := by
  have c1 := nnew_any w
  go_enter Tryz.func29, Tryz.ntmps29
  go_wp2_with (go_at_call 48; (with_reducible refine c1.mono ?_); rintro e w1 ⟨q, rfl, hK, hb⟩)
  go_ret2
  exact ⟨⟨w1.heap.size, 0, none⟩, rfl, ks_made _ (.inr (.inl ⟨rfl, rfl, hK⟩)) hb.size, hb.alloc hb.size _⟩
set_option maxHeartbeats 2000000 in
set_option maxRecDepth 100000 in
theorem knew_sliced (w : World) :
    Calls Tryz.prog 29 #[.int .i64 2] w fun e w' => ∃ p, e = .returned (.tuple #[.pointer (some p), .int .i64 0]) ∧ Ks w' p 2 w.heap.size w'.heap.size ∧ Below w.heap.size w w' := by
  have c1 := snew_any w
  go_enter Tryz.func29, Tryz.ntmps29
  go_wp2_with (go_at_call 49; (with_reducible refine c1.mono ?_); rintro e w1 ⟨q, rfl, hK, hb⟩)
  go_ret2
  exact ⟨⟨w1.heap.size, 0, none⟩, rfl, ks_made _ (.inr (.inr ⟨rfl, rfl, hK⟩)) hb.size, hb.alloc hb.size _⟩
theorem knew_ok (b : Nat) (w : World) (hb : b ≤ 2) :
    Calls Tryz.prog 29 #[.int .i64 (b : Int)] w fun e w' => ∃ p, e = .returned (.tuple #[.pointer (some p), .int .i64 0]) ∧ Ks w' p b w.heap.size w'.heap.size ∧ Below w.heap.size w w' := by
  match b, hb with
  | 0, _ => exact knew_table w
  | 1, _ => exact knew_nibble w
  | 2, _ => exact knew_sliced w
end Go.Proofs.YtefolifecbhgoaaGreat
namespace Go.Proofs.YtefolifecbhgoaaGreat
open Go.RowKit Gf2
set_option linter.unusedVariables false

theorem elem_u8k : Tryz.prog.elem 27 = 5 := by kernel_rfl
theorem size_u8k (W : World) : (sizeOf 5).run Tryz.prog W = .ok 1 W := by
  obtain ⟨i, hi, -, hs, -⟩ := info_u8a
  simp [sizeOf, typeInfo, hi, hs]
theorem run_cut9 (x : Option Addr) (n cx f t : Nat) (hft : f ≤ t) (ht : t ≤ cx) (W : World) :
    (Instr.slice 27 (.slice x n cx) (some (.int .i64 (f : Int))) (some (.int .i64 (t : Int))) none).run Tryz.prog W = .ok (.slice (if cx = f then x else x.map (·.add f)) (t - f) (cx - f)) W := by
  have hu : Tryz.prog.underlying 27 = some (.slice (Tryz.prog.elem 27)) := by rw [elem_u8k]; exact Tryz.underlying27
  have h := run_slice_lh (P := Tryz.prog) (w := W) 27 x n cx hu .i64 .i64 (f : Int) (t : Int) (by omega) (by omega) (by omega)
  rw [h, elem_u8k, size_u8k]
  simp only [Result.andThen, sliced, Int.toNat_natCast, Nat.mul_one]
theorem cut_at9 {x : Option Addr} {cx f t L b o : Nat} (hft : f < t) (ht : t ≤ L) (hL : L ≤ cx) (hx : 0 < L → x = some ⟨b, o, none⟩) : (if cx = f then x else x.map (·.add f)) = some ⟨b, o + f, none⟩ := by
  rw [if_neg (by omega), hx (by omega)]
  show some ((⟨b, o, none⟩ : Addr).add f) = _
  rw [Addr.add_lit]
theorem cut_re9 {E : Nat → Prop} {w : World} {x : Option Addr} {n cx f t : Nat} {S : Nat → Nat} (h : Re E w (.slice x n cx) n S) (hft : f ≤ t) (ht : t ≤ n) :
    ∃ a, Re E w (.slice a (t - f) (cx - f)) (t - f) (fun j => S (f + j)) ∧ ∀ W : World, (Instr.slice 27 (.slice x n cx) (some (.int .i64 (f : Int))) (some (.int .i64 (t : Int))) none).run Tryz.prog W = .ok (.slice a (t - f) (cx - f)) W := by
  obtain ⟨b1, b2, a, c', b3, b5, b6, b4⟩ := h
  cases b3
  refine ⟨_, ⟨by omega, fun i hi => b2 _ (by omega), _, _, rfl, by omega, by omega, fun h0 => ?_⟩, fun W => run_cut9 x n cx f t hft (by omega) W⟩
  obtain ⟨b, o, e, hl, hc⟩ := b4 (by omega)
  exact ⟨b, o + f, cut_at9 (by omega) ht b5 (fun _ => e), hl, fun i hi => by rw [Nat.add_assoc]; exact hc _ (by omega)⟩
theorem cut_pl9 {x : Option Addr} {n cx f t b o : Nat} (hx : 0 < n → x = some ⟨b, o, none⟩) (hn : n ≤ cx) (hft : f ≤ t) (ht : t ≤ n) :
    ∃ a, (0 < t - f → a = some ⟨b, o + f, none⟩) ∧ ∀ W : World, (Instr.slice 27 (.slice x n cx) (some (.int .i64 (f : Int))) (some (.int .i64 (t : Int))) none).run Tryz.prog W = .ok (.slice a (t - f) (cx - f)) W :=
  ⟨_, fun h0 => cut_at9 (by omega) ht hn hx, fun W => run_cut9 x n cx f t hft (by omega) W⟩
theorem sum9_more {w : World} {g N o n j : Nat} {F R : Nat → Nat} {S : Nat → Nat → Nat} {T : Nat → Nat}
    (h : Rw w g N (pl (pl F o n (fun x => F (o + x) ^^^ ks R S j x)) o n (fun x => pl F o n (fun x => F (o + x) ^^^ ks R S j x) (o + x) ^^^ fm 285 (R j) (T x)))) (hT : ∀ x, x < n → T x = S j x) :
    Rw w g N (pl F o n (fun x => F (o + x) ^^^ ks R S (j + 1) x)) :=
  h.congr (fun i hi => by
    unfold pl
    by_cases e : o ≤ i ∧ i < o + n
    · simp only [if_pos e]
      rw [if_pos (by omega), show o + (i - o) - o = i - o by omega, hT _ (by omega), Nat.xor_assoc]
      rfl
    · simp only [if_neg e])
theorem sum9_none {w : World} {g N o n : Nat} {F R : Nat → Nat} {S : Nat → Nat → Nat} (h : Rw w g N F) : Rw w g N (pl F o n (fun x => F (o + x) ^^^ ks R S 0 x)) :=
  h.congr (fun i hi => by
    unfold pl
    by_cases e : o ≤ i ∧ i < o + n
    · rw [if_pos e]
      show F i = F (o + (i - o)) ^^^ ks R S 0 (i - o)
      unfold ks
      rw [Nat.xor_zero, show o + (i - o) = i by omega]
    · rw [if_neg e])
set_option maxHeartbeats 4000000 in
set_option maxRecDepth 100000 in
theorem addp9_table (q : Addr) (lo mid hi g0 k L f t g o N : Nat) (F R : Nat → Nat) (S : Nat → Nat → Nat) (a : Option Addr) (ca : Nat) (row srcs : Value) (w : World) (hK : Ker w q lo mid) (i0 : w.cell? ⟨g0, 0, none⟩ = some (.iface 98 (.pointer (some q)))) (h1 : lo ≤ g0) (h2 : g0 < hi) (h3 : hi ≤ w.heap.size) (h4 : mid ≤ hi)
    (hg : g < lo ∨ hi ≤ g) (hR : Rw w g N F) (hd : 0 < t - f → a = some ⟨g, o, none⟩) (hoN : o + (t - f) ≤ N) (hca : t - f ≤ ca) (hn : t - f ≤ big) (hr : Re (fun x => x = g) w row k R) (hs : Ll (fun x => x = g) w srcs k (fun _ => L) S) (hft : f ≤ t) (htL : 0 < k → t ≤ L) (hkb : k ≤ 140737488355328) :
    Calls Tryz.prog 80 #[.pointer (some ⟨g0, 0, none⟩), row, srcs, .slice a (t - f : Nat) ca, .agg #[.int .i64 (f : Int), .int .i64 (t : Int)]] w fun e w' => (∃ v, e = .returned v) ∧ Kp g w w' ∧ Rw w' g N (pl F o (t - f) (fun x => F (o + x) ^^^ ks R (fun i j => S i (f + j)) k x)) := by
  obtain ⟨r1, r2, ar, cr, rfl, -, -, r4⟩ := hr
  obtain ⟨V, ⟨hmb, as_, cs, rfl, -, -, s4⟩, hV⟩ := hs
  have hgl := hR.lt
  have hm : ∀ W, Sem.run Tryz.prog (method 364 98 (.pointer (some q)) "MulAdd") W = .ok (185, .pointer (some q)) W := fun _ => by kernel_rfl
  go_enter Tryz.func80, Tryz.ntmps80
  go_wp2
  obtain ⟨w1, hw1⟩ : ∃ x, x = w.alloc (.cells #[.int .i64 (f : Int), .int .i64 (t : Int)] 65) := ⟨_, rfl⟩
  rw [← hw1]
  have b1 : Below w.heap.size w w1 := by rw [hw1]; exact (Below.refl _ _).alloc (Nat.le_refl _) _
  have p1 : Kp g w w1 := kp_below b1 g
  have z1 : w1.heap.size = w.heap.size + 1 := by rw [hw1]; simp
  have y1 : w1.cell? ⟨w.heap.size, 0, none⟩ = some (.int .i64 (f : Int)) := by rw [hw1]; simp
  have y2 : w1.cell? ⟨w.heap.size, 1, none⟩ = some (.int .i64 (t : Int)) := by rw [hw1]; simp
  have e1 : g0 < w.heap.size := Nat.lt_of_lt_of_le h2 h3
  have e2 : g0 ≠ g := fun e => by rcases hg with h | h <;> omega
  have e3 : w.heap.size < w1.heap.size := by rw [z1]; exact Nat.lt_succ_self _
  have e4 : w.heap.size ≠ g := fun e => by rw [e] at hgl; exact Nat.lt_irrefl _ hgl
  have e5 : g < lo ∨ mid ≤ g := by rcases hg with h | h; exact .inl h; exact .inr (Nat.le_trans h4 h)
  clear hw1
  go_loopw [14] (fun i wr => ∃ j : Nat, j ≤ k ∧ i = .int .i64 j ∧ Kp g w1 wr ∧ Rw wr g N (pl F o (t - f) (fun x => F (o + x) ^^^ ks R (fun i j => S i (f + j)) j x))) (fun i _ => k - (intOf i).toNat)
  case atStart => exact ⟨0, Nat.zero_le _, rfl, Kp.refl _ _, sum9_none (rw_below hR b1)⟩
  case round =>
    obtain ⟨j, hj, rfl, ho, hr⟩ := hrel
    have ho' : Kp g w wr := p1.trans ho
    by_cases hlt : j < k
    · obtain ⟨br, orr, rfl, hbr, hcr⟩ := r4 (by omega)
      obtain ⟨bs, os, rfl, hbs, hcs⟩ := s4 (by omega)
      clear r4 s4
      have q1 := (ho'.cell hbr.1 hbr.2).trans (hcr j hlt)
      have q2 := (ho'.cell hbs.1 hbs.2).trans (hcs j hlt)
      have hv := hV j hlt
      obtain ⟨x1, cx, hx1, hcx⟩ : ∃ x cx, V j = .slice x L cx ∧ L ≤ cx := by obtain ⟨_, _, a, cap, h, h', _⟩ := id hv; exact ⟨a, cap, h, h'⟩
      rw [hx1] at q2 hv
      have htL' := htL (by omega)
      obtain ⟨a9, hre, hcut⟩ := cut_re9 (f := f) (t := t) hv hft htL'
      have hre' := (hre.ke ho'.ke).fk
      have hsz := ho'.size
      have q3 := (ho'.cell (q := 0) e1 e2).trans i0
      have q4 := (ho.cell e3 e4).trans y1
      have q5 := (ho.cell e3 e4).trans y2
      have hK' : Ker wr q lo mid := hK.keep (Nat.le_trans (Nat.le_trans h4 h3) hsz) (fun b hb1 hb2 => ho'.2 b (Nat.lt_of_lt_of_le hb2 (Nat.le_trans h4 h3)) (fun e => by rcases e5 with h | h <;> omega))
      have c1 := t9add_far q lo mid (R j) (t - f) g o N _ _ a a9 ca (cx - f) wr.drew hK' (r2 j hlt) hn e5 hca (Nat.sub_le_sub_right (Nat.le_trans htL' hcx) f) ⟨hr.1, hr.2.1, hr.2.2.drew⟩ hd hoN hre'
      have ib : ((j : Nat) : Int) < (k : Int) := by omega
      have W1 := wrap_succ8 (j := j) (by unfold big; omega)
      have HQ : Hid (Kp g w1 wr ∧ br < w.heap.size ∧ br ≠ g ∧ g0 < w.heap.size ∧ g0 ≠ g ∧ w.heap.size < w1.heap.size ∧ w.heap.size ≠ g ∧ Kp g w wr) := ⟨ho, hbr.1, hbr.2, e1, e2, e3, e4, ho'⟩
      clear hcr hcs hV hv hre hre' hK' hK hr ho ho' hd hR r1 r2 hmb hn htL htL' hsz hcx hbr hbs hx1 i0 y1 y2 p1 b1 hoN hca hkb
      go_wp2
      refine region_planI (fun w' => w'.cell? ⟨g0, 0, none⟩ = some (.iface 98 (.pointer (some q))) ∧ w'.cell? ⟨br, orr + j, none⟩ = some (.int .u8 (R j : Nat)) ∧ w'.cell? ⟨w.heap.size, 0, none⟩ = some (.int .i64 (f : Int)) ∧ w'.cell? ⟨w.heap.size, 1, none⟩ = some (.int .i64 (t : Int))) [0, 1, 2, 3, 4, 5, 6, 7, 8, 9, 10, 11, 12, 13, 14, 15, 16, 17, 18] [18, 0] 39 ⟨q3, q1, q4, q5⟩ (by kernel_rfl) (by kernel_rfl) (fun _ a d v _ h => by cases d <;> exact h) ?_
      simp only [atI, List.getElem?_cons_zero, List.getElem?_cons_succ]
      refine planH_step ?A1 rfl (fun w' hS => ?s1) rfl (fun K hK => ?n1)
      case s1 =>
        obtain ⟨y0, y1, y2, y3⟩ := hS
        simp only [List.take_succ_cons, List.take_zero]
        repeat still_step
        exact rfl
      case n1 =>
      go_simp
      go_wp2_with (go_at_call 185; (with_reducible refine c1.mono ?_); rintro e x1 ⟨rfl, k5, r5⟩)
      clear c1
      have k6 : Kp g wr x1 := ⟨⟨k5.1.os, k5.1.tape, k5.1.output, k5.1.size, k5.1.block⟩, k5.2⟩
      have HN : Hid (Kp g w1 x1 ∧ Rw x1 g N (pl F o (t - f) (fun x => F (o + x) ^^^ ks R (fun i j => S i (f + j)) (j + 1) x))) := ⟨HQ.out.1.trans k6, sum9_more r5 (fun x _ => rfl)⟩
      obtain ⟨n1, n2, n3, n4, n5, n6, n7, n8⟩ := HQ.out
      refine hK _ _ ⟨(k6.cell (Nat.lt_of_lt_of_le n4 n8.size) n5).trans q3, (k6.cell (Nat.lt_of_lt_of_le n2 n8.size) n3).trans q1, (k6.cell (Nat.lt_of_lt_of_le n6 n1.size) n7).trans q4, (k6.cell (Nat.lt_of_lt_of_le n6 n1.size) n7).trans q5⟩ ?_
      clear hK K n1 n2 n3 n4 n5 n6 n7 n8 k6 k5 r5 q1 q2 q3 q4 q5 HQ
      refine planH_last ?A2 rfl (fun w' hS => ?s2) rfl ?n2
      case s2 =>
        simp only [List.take_zero]
        exact rfl
      case n2 =>
      go_wp2
      go_roundw
      case rel => exact ⟨j + 1, hlt, by first | rfl | (rw [W1]; rfl), HN.out.1, HN.out.2⟩
      case measure => first | exact meas_lt8 hlt | (rw [W1]; exact meas_lt8 hlt)
    · have hkn : j = k := by omega
      subst hkn
      clear r4 s4 hV
      go_wp2
      go_end0
      exact ⟨⟨_, rfl⟩, ho', hr⟩
set_option maxHeartbeats 4000000 in
set_option maxRecDepth 100000 in
theorem addp9_nibble (q : Addr) (lo mid hi g0 k L f t g o N : Nat) (F R : Nat → Nat) (S : Nat → Nat → Nat) (a : Option Addr) (ca : Nat) (row srcs : Value) (w : World) (hK : Nk w q lo mid) (i0 : w.cell? ⟨g0, 0, none⟩ = some (.iface 100 (.pointer (some q)))) (h1 : lo ≤ g0) (h2 : g0 < hi) (h3 : hi ≤ w.heap.size) (h4 : mid ≤ hi)
    (hg : g < lo ∨ hi ≤ g) (hR : Rw w g N F) (hd : 0 < t - f → a = some ⟨g, o, none⟩) (hoN : o + (t - f) ≤ N) (hca : t - f ≤ ca) (hn : t - f ≤ big) (hr : Re (fun x => x = g) w row k R) (hs : Ll (fun x => x = g) w srcs k (fun _ => L) S) (hft : f ≤ t) (htL : 0 < k → t ≤ L) (hkb : k ≤ 140737488355328) :
    Calls Tryz.prog 80 #[.pointer (some ⟨g0, 0, none⟩), row, srcs, .slice a (t - f : Nat) ca, .agg #[.int .i64 (f : Int), .int .i64 (t : Int)]] w fun e w' => (∃ v, e = .returned v) ∧ Kp g w w' ∧ Rw w' g N (pl F o (t - f) (fun x => F (o + x) ^^^ ks R (fun i j => S i (f + j)) k x)) := by
  obtain ⟨r1, r2, ar, cr, rfl, -, -, r4⟩ := hr
  obtain ⟨V, ⟨hmb, as_, cs, rfl, -, -, s4⟩, hV⟩ := hs
  have hgl := hR.lt
  have hm : ∀ W, Sem.run Tryz.prog (method 364 100 (.pointer (some q)) "MulAdd") W = .ok (189, .pointer (some q)) W := fun _ => by kernel_rfl
  go_enter Tryz.func80, Tryz.ntmps80
  go_wp2
  obtain ⟨w1, hw1⟩ : ∃ x, x = w.alloc (.cells #[.int .i64 (f : Int), .int .i64 (t : Int)] 65) := ⟨_, rfl⟩
  rw [← hw1]
  have b1 : Below w.heap.size w w1 := by rw [hw1]; exact (Below.refl _ _).alloc (Nat.le_refl _) _
  have p1 : Kp g w w1 := kp_below b1 g
  have z1 : w1.heap.size = w.heap.size + 1 := by rw [hw1]; simp
  have y1 : w1.cell? ⟨w.heap.size, 0, none⟩ = some (.int .i64 (f : Int)) := by rw [hw1]; simp
  have y2 : w1.cell? ⟨w.heap.size, 1, none⟩ = some (.int .i64 (t : Int)) := by rw [hw1]; simp
  have e1 : g0 < w.heap.size := Nat.lt_of_lt_of_le h2 h3
  have e2 : g0 ≠ g := fun e => by rcases hg with h | h <;> omega
  have e3 : w.heap.size < w1.heap.size := by rw [z1]; exact Nat.lt_succ_self _
  have e4 : w.heap.size ≠ g := fun e => by rw [e] at hgl; exact Nat.lt_irrefl _ hgl
  have e5 : g < lo ∨ mid ≤ g := by rcases hg with h | h; exact .inl h; exact .inr (Nat.le_trans h4 h)
  clear hw1
  go_loopw [14] (fun i wr => ∃ j : Nat, j ≤ k ∧ i = .int .i64 j ∧ Kp g w1 wr ∧ Rw wr g N (pl F o (t - f) (fun x => F (o + x) ^^^ ks R (fun i j => S i (f + j)) j x))) (fun i _ => k - (intOf i).toNat)
  case atStart => exact ⟨0, Nat.zero_le _, rfl, Kp.refl _ _, sum9_none (rw_below hR b1)⟩
  case round =>
    obtain ⟨j, hj, rfl, ho, hr⟩ := hrel
    have ho' : Kp g w wr := p1.trans ho
    by_cases hlt : j < k
    · obtain ⟨br, orr, rfl, hbr, hcr⟩ := r4 (by omega)
      obtain ⟨bs, os, rfl, hbs, hcs⟩ := s4 (by omega)
      clear r4 s4
      have q1 := (ho'.cell hbr.1 hbr.2).trans (hcr j hlt)
      have q2 := (ho'.cell hbs.1 hbs.2).trans (hcs j hlt)
      have hv := hV j hlt
      obtain ⟨x1, cx, hx1, hcx⟩ : ∃ x cx, V j = .slice x L cx ∧ L ≤ cx := by obtain ⟨_, _, a, cap, h, h', _⟩ := id hv; exact ⟨a, cap, h, h'⟩
      rw [hx1] at q2 hv
      have htL' := htL (by omega)
      obtain ⟨a9, hre, hcut⟩ := cut_re9 (f := f) (t := t) hv hft htL'
      have hre' := (hre.ke ho'.ke).fk
      have hsz := ho'.size
      have q3 := (ho'.cell (q := 0) e1 e2).trans i0
      have q4 := (ho.cell e3 e4).trans y1
      have q5 := (ho.cell e3 e4).trans y2
      have hK' : Nk wr q lo mid := hK.keep (Nat.le_trans (Nat.le_trans h4 h3) hsz) (fun b hb1 hb2 => ho'.2 b (Nat.lt_of_lt_of_le hb2 (Nat.le_trans h4 h3)) (fun e => by rcases e5 with h | h <;> omega))
      have c1 := n9add_far q lo mid (R j) (t - f) g o N _ _ a a9 ca (cx - f) wr.drew hK' (r2 j hlt) hn e5 hca (Nat.sub_le_sub_right (Nat.le_trans htL' hcx) f) ⟨hr.1, hr.2.1, hr.2.2.drew⟩ hd hoN hre'
      have ib : ((j : Nat) : Int) < (k : Int) := by omega
      have W1 := wrap_succ8 (j := j) (by unfold big; omega)
      have HQ : Hid (Kp g w1 wr ∧ br < w.heap.size ∧ br ≠ g ∧ g0 < w.heap.size ∧ g0 ≠ g ∧ w.heap.size < w1.heap.size ∧ w.heap.size ≠ g ∧ Kp g w wr) := ⟨ho, hbr.1, hbr.2, e1, e2, e3, e4, ho'⟩
      clear hcr hcs hV hv hre hre' hK' hK hr ho ho' hd hR r1 r2 hmb hn htL htL' hsz hcx hbr hbs hx1 i0 y1 y2 p1 b1 hoN hca hkb
      go_wp2
      refine region_planI (fun w' => w'.cell? ⟨g0, 0, none⟩ = some (.iface 100 (.pointer (some q))) ∧ w'.cell? ⟨br, orr + j, none⟩ = some (.int .u8 (R j : Nat)) ∧ w'.cell? ⟨w.heap.size, 0, none⟩ = some (.int .i64 (f : Int)) ∧ w'.cell? ⟨w.heap.size, 1, none⟩ = some (.int .i64 (t : Int))) [0, 1, 2, 3, 4, 5, 6, 7, 8, 9, 10, 11, 12, 13, 14, 15, 16, 17, 18] [18, 0] 39 ⟨q3, q1, q4, q5⟩ (by kernel_rfl) (by kernel_rfl) (fun _ a d v _ h => by cases d <;> exact h) ?_
      simp only [atI, List.getElem?_cons_zero, List.getElem?_cons_succ]
      refine planH_step ?A1 rfl (fun w' hS => ?s1) rfl (fun K hK => ?n1)
      case s1 =>
        obtain ⟨y0, y1, y2, y3⟩ := hS
        simp only [List.take_succ_cons, List.take_zero]
        repeat still_step
        exact rfl
      case n1 =>
      go_simp
      go_wp2_with (go_at_call 189; (with_reducible refine c1.mono ?_); rintro e x1 ⟨rfl, k5, r5⟩)
      clear c1
      have k6 : Kp g wr x1 := ⟨⟨k5.1.os, k5.1.tape, k5.1.output, k5.1.size, k5.1.block⟩, k5.2⟩
      have HN : Hid (Kp g w1 x1 ∧ Rw x1 g N (pl F o (t - f) (fun x => F (o + x) ^^^ ks R (fun i j => S i (f + j)) (j + 1) x))) := ⟨HQ.out.1.trans k6, sum9_more r5 (fun x _ => rfl)⟩
      obtain ⟨n1, n2, n3, n4, n5, n6, n7, n8⟩ := HQ.out
      refine hK _ _ ⟨(k6.cell (Nat.lt_of_lt_of_le n4 n8.size) n5).trans q3, (k6.cell (Nat.lt_of_lt_of_le n2 n8.size) n3).trans q1, (k6.cell (Nat.lt_of_lt_of_le n6 n1.size) n7).trans q4, (k6.cell (Nat.lt_of_lt_of_le n6 n1.size) n7).trans q5⟩ ?_
      clear hK K n1 n2 n3 n4 n5 n6 n7 n8 k6 k5 r5 q1 q2 q3 q4 q5 HQ
      refine planH_last ?A2 rfl (fun w' hS => ?s2) rfl ?n2
      case s2 =>
        simp only [List.take_zero]
        exact rfl
      case n2 =>
      go_wp2
      go_roundw
      case rel => exact ⟨j + 1, hlt, by first | rfl | (rw [W1]; rfl), HN.out.1, HN.out.2⟩
      case measure => first | exact meas_lt8 hlt | (rw [W1]; exact meas_lt8 hlt)
    · have hkn : j = k := by omega
      subst hkn
      clear r4 s4 hV
      go_wp2
      go_end0
      exact ⟨⟨_, rfl⟩, ho', hr⟩
set_option maxHeartbeats 4000000 in
set_option maxRecDepth 100000 in
theorem addp9_sliced (q : Addr) (lo mid hi g0 k L f t g o N : Nat) (F R : Nat → Nat) (S : Nat → Nat → Nat) (a : Option Addr) (ca : Nat) (row srcs : Value) (w : World) (hK : Sk w q lo mid) (i0 : w.cell? ⟨g0, 0, none⟩ = some (.iface 102 (.pointer (some q)))) (h1 : lo ≤ g0) (h2 : g0 < hi) (h3 : hi ≤ w.heap.size) (h4 : mid ≤ hi)
    (hg : g < lo ∨ hi ≤ g) (hR : Rw w g N F) (hd : 0 < t - f → a = some ⟨g, o, none⟩) (hoN : o + (t - f) ≤ N) (hca : t - f ≤ ca) (hn : t - f ≤ big) (hr : Re (fun x => x = g) w row k R) (hs : Ll (fun x => x = g) w srcs k (fun _ => L) S) (hft : f ≤ t) (htL : 0 < k → t ≤ L) (hkb : k ≤ 140737488355328) :
    Calls Tryz.prog 80 #[.pointer (some ⟨g0, 0, none⟩), row, srcs, .slice a (t - f : Nat) ca, .agg #[.int .i64 (f : Int), .int .i64 (t : Int)]] w fun e w' => (∃ v, e = .returned v) ∧ Kp g w w' ∧ Rw w' g N (pl F o (t - f) (fun x => F (o + x) ^^^ ks R (fun i j => S i (f + j)) k x)) := by
  obtain ⟨r1, r2, ar, cr, rfl, -, -, r4⟩ := hr
  obtain ⟨V, ⟨hmb, as_, cs, rfl, -, -, s4⟩, hV⟩ := hs
  have hgl := hR.lt
  have hm : ∀ W, Sem.run Tryz.prog (method 364 102 (.pointer (some q)) "MulAdd") W = .ok (194, .pointer (some q)) W := fun _ => by kernel_rfl
  go_enter Tryz.func80, Tryz.ntmps80
  go_wp2
  obtain ⟨w1, hw1⟩ : ∃ x, x = w.alloc (.cells #[.int .i64 (f : Int), .int .i64 (t : Int)] 65) := ⟨_, rfl⟩
  rw [← hw1]
  have b1 : Below w.heap.size w w1 := by rw [hw1]; exact (Below.refl _ _).alloc (Nat.le_refl _) _
  have p1 : Kp g w w1 := kp_below b1 g
  have z1 : w1.heap.size = w.heap.size + 1 := by rw [hw1]; simp
  have y1 : w1.cell? ⟨w.heap.size, 0, none⟩ = some (.int .i64 (f : Int)) := by rw [hw1]; simp
  have y2 : w1.cell? ⟨w.heap.size, 1, none⟩ = some (.int .i64 (t : Int)) := by rw [hw1]; simp
  have e1 : g0 < w.heap.size := Nat.lt_of_lt_of_le h2 h3
  have e2 : g0 ≠ g := fun e => by rcases hg with h | h <;> omega
  have e3 : w.heap.size < w1.heap.size := by rw [z1]; exact Nat.lt_succ_self _
  have e4 : w.heap.size ≠ g := fun e => by rw [e] at hgl; exact Nat.lt_irrefl _ hgl
  have e5 : g < lo ∨ mid ≤ g := by rcases hg with h | h; exact .inl h; exact .inr (Nat.le_trans h4 h)
  clear hw1
  go_loopw [14] (fun i wr => ∃ j : Nat, j ≤ k ∧ i = .int .i64 j ∧ Kp g w1 wr ∧ Rw wr g N (pl F o (t - f) (fun x => F (o + x) ^^^ ks R (fun i j => S i (f + j)) j x))) (fun i _ => k - (intOf i).toNat)
  case atStart => exact ⟨0, Nat.zero_le _, rfl, Kp.refl _ _, sum9_none (rw_below hR b1)⟩
  case round =>
    obtain ⟨j, hj, rfl, ho, hr⟩ := hrel
    have ho' : Kp g w wr := p1.trans ho
    by_cases hlt : j < k
    · obtain ⟨br, orr, rfl, hbr, hcr⟩ := r4 (by omega)
      obtain ⟨bs, os, rfl, hbs, hcs⟩ := s4 (by omega)
      clear r4 s4
      have q1 := (ho'.cell hbr.1 hbr.2).trans (hcr j hlt)
      have q2 := (ho'.cell hbs.1 hbs.2).trans (hcs j hlt)
      have hv := hV j hlt
      obtain ⟨x1, cx, hx1, hcx⟩ : ∃ x cx, V j = .slice x L cx ∧ L ≤ cx := by obtain ⟨_, _, a, cap, h, h', _⟩ := id hv; exact ⟨a, cap, h, h'⟩
      rw [hx1] at q2 hv
      have htL' := htL (by omega)
      obtain ⟨a9, hre, hcut⟩ := cut_re9 (f := f) (t := t) hv hft htL'
      have hre' := (hre.ke ho'.ke).fk
      have hsz := ho'.size
      have q3 := (ho'.cell (q := 0) e1 e2).trans i0
      have q4 := (ho.cell e3 e4).trans y1
      have q5 := (ho.cell e3 e4).trans y2
      have hK' : Sk wr q lo mid := hK.keep (Nat.le_trans (Nat.le_trans h4 h3) hsz) (fun b hb1 hb2 => ho'.2 b (Nat.lt_of_lt_of_le hb2 (Nat.le_trans h4 h3)) (fun e => by rcases e5 with h | h <;> omega))
      have c1 := s9add_far q lo mid (R j) (t - f) g o N _ _ a a9 ca (cx - f) wr.drew hK' (r2 j hlt) hn e5 hca (Nat.sub_le_sub_right (Nat.le_trans htL' hcx) f) ⟨hr.1, hr.2.1, hr.2.2.drew⟩ hd hoN hre'
      have ib : ((j : Nat) : Int) < (k : Int) := by omega
      have W1 := wrap_succ8 (j := j) (by unfold big; omega)
      have HQ : Hid (Kp g w1 wr ∧ br < w.heap.size ∧ br ≠ g ∧ g0 < w.heap.size ∧ g0 ≠ g ∧ w.heap.size < w1.heap.size ∧ w.heap.size ≠ g ∧ Kp g w wr) := ⟨ho, hbr.1, hbr.2, e1, e2, e3, e4, ho'⟩
      clear hcr hcs hV hv hre hre' hK' hK hr ho ho' hd hR r1 r2 hmb hn htL htL' hsz hcx hbr hbs hx1 i0 y1 y2 p1 b1 hoN hca hkb
      go_wp2
      refine region_planI (fun w' => w'.cell? ⟨g0, 0, none⟩ = some (.iface 102 (.pointer (some q))) ∧ w'.cell? ⟨br, orr + j, none⟩ = some (.int .u8 (R j : Nat)) ∧ w'.cell? ⟨w.heap.size, 0, none⟩ = some (.int .i64 (f : Int)) ∧ w'.cell? ⟨w.heap.size, 1, none⟩ = some (.int .i64 (t : Int))) [0, 1, 2, 3, 4, 5, 6, 7, 8, 9, 10, 11, 12, 13, 14, 15, 16, 17, 18] [18, 0] 39 ⟨q3, q1, q4, q5⟩ (by kernel_rfl) (by kernel_rfl) (fun _ a d v _ h => by cases d <;> exact h) ?_
      simp only [atI, List.getElem?_cons_zero, List.getElem?_cons_succ]
      refine planH_step ?A1 rfl (fun w' hS => ?s1) rfl (fun K hK => ?n1)
      case s1 =>
        obtain ⟨y0, y1, y2, y3⟩ := hS
        simp only [List.take_succ_cons, List.take_zero]
        repeat still_step
        exact rfl
      case n1 =>
      go_simp
      go_wp2_with (go_at_call 194; (with_reducible refine c1.mono ?_); rintro e x1 ⟨rfl, k5, r5⟩)
      clear c1
      have k6 : Kp g wr x1 := ⟨⟨k5.1.os, k5.1.tape, k5.1.output, k5.1.size, k5.1.block⟩, k5.2⟩
      have HN : Hid (Kp g w1 x1 ∧ Rw x1 g N (pl F o (t - f) (fun x => F (o + x) ^^^ ks R (fun i j => S i (f + j)) (j + 1) x))) := ⟨HQ.out.1.trans k6, sum9_more r5 (fun x _ => rfl)⟩
      obtain ⟨n1, n2, n3, n4, n5, n6, n7, n8⟩ := HQ.out
      refine hK _ _ ⟨(k6.cell (Nat.lt_of_lt_of_le n4 n8.size) n5).trans q3, (k6.cell (Nat.lt_of_lt_of_le n2 n8.size) n3).trans q1, (k6.cell (Nat.lt_of_lt_of_le n6 n1.size) n7).trans q4, (k6.cell (Nat.lt_of_lt_of_le n6 n1.size) n7).trans q5⟩ ?_
      clear hK K n1 n2 n3 n4 n5 n6 n7 n8 k6 k5 r5 q1 q2 q3 q4 q5 HQ
      refine planH_last ?A2 rfl (fun w' hS => ?s2) rfl ?n2
      case s2 =>
        simp only [List.take_zero]
        exact rfl
      case n2 =>
      go_wp2
      go_roundw
      case rel => exact ⟨j + 1, hlt, by first | rfl | (rw [W1]; rfl), HN.out.1, HN.out.2⟩
      case measure => first | exact meas_lt8 hlt | (rw [W1]; exact meas_lt8 hlt)
    · have hkn : j = k := by omega
      subst hkn
      clear r4 s4 hV
      go_wp2
      go_end0
      exact ⟨⟨_, rfl⟩, ho', hr⟩
end Go.Proofs.YtefolifecbhgoaaGreat
namespace Go.Proofs.YtefolifecbhgoaaGreat
open Go.RowKit Gf2
set_option linter.unusedVariables false

set_option maxHeartbeats 2000000 in
set_option maxRecDepth 100000 in
theorem allof9 (L : Nat) (v : Value) (m : Nat) (n : Nat → Nat) (S : Nat → Nat → Nat) (w : World) (hv : Lb w v m n S) (hmb : m ≤ 140737488355328) :
    Calls Tryz.prog 116 #[.int .i64 (L : Int), v] w fun e w' => (∃ b : Bool, e = .returned (.bool b) ∧ (b = true ↔ ∀ i, i < m → n i = L)) ∧ w' = w := by
  obtain ⟨V, ⟨hmb2, a, cap, rfl, -, -, h4⟩, hV⟩ := hv
  go_enter Tryz.func116, Tryz.ntmps116
  go_wp2
  go_loopw [9] (fun i wr => ∃ j : Nat, j ≤ m ∧ i = .int .i64 j ∧ w = wr ∧ ∀ i, i < j → n i = L) (fun i _ => m - (intOf i).toNat)
  case atStart => exact ⟨0, Nat.zero_le _, rfl, rfl, fun i hi => absurd hi (Nat.not_lt_zero _)⟩
  case round =>
    obtain ⟨j, hj, rfl, rfl, hE⟩ := hrel
    by_cases hlt : j < m
    · obtain ⟨b', o', rfl, hbl, hc'⟩ := h4 (by omega)
      have q2 := hc' j hlt
      obtain ⟨s1, s2, x1, y1, e1, -, -, s4⟩ := hV j hlt
      rw [e1] at q2
      have ib : ((j : Nat) : Int) < (m : Int) := by omega
      have W1 := wrap_succ8 (j := j) (by unfold big; omega)
      by_cases hjL : n j = L
      · rw [hjL] at q2
        have HV : Hid ((∀ i, i < j → n i = L) ∧ n j = L) := ⟨hE, hjL⟩
        clear hE hjL s1 s2 s4 e1 hc' h4 hV hmb hmb2 hbl
        go_wp2
        go_roundw
        case rel =>
          refine ⟨j + 1, hlt, by first | rfl | (rw [W1]; rfl), by first | rfl | trivial, fun i hi => ?_⟩
          by_cases e : i = j
          · rw [e]; exact HV.out.2
          · exact HV.out.1 i (by omega)
        case measure => first | exact meas_lt8 hlt | (rw [W1]; exact meas_lt8 hlt)
      · have hI : ¬ ((n j : Int) = (L : Int)) := fun e => hjL (Int.ofNat.inj e)
        have H6 : Hid (¬ ∀ i, i < m → n i = L) := fun h => hjL (h j hlt)
        clear hE hjL s1 s2 s4 e1 hc' h4 hV hmb hmb2 hbl
        go_wp2
        go_ret
        exact ⟨⟨false, rfl, ⟨fun h => absurd h (by decide), fun h => absurd h H6.out⟩⟩, by first | rfl | trivial⟩
    · have hjm : j = m := by omega
      subst hjm
      clear h4 hV hmb hlt hj
      go_wp2
      go_ret
      exact ⟨⟨true, rfl, ⟨fun _ => hE, fun _ => rfl⟩⟩, by first | rfl | trivial⟩
theorem allof9_yes (L : Nat) (v : Value) (m : Nat) (n : Nat → Nat) (S : Nat → Nat → Nat) (w : World) (hv : Lb w v m n S) (hmb : m ≤ 140737488355328) (h : ∀ i, i < m → n i = L) :
    Calls Tryz.prog 116 #[.int .i64 (L : Int), v] w fun e w' => e = .returned (.bool true) ∧ w' = w :=
  (allof9 L v m n S w hv hmb).mono fun e w' ⟨⟨b, e1, hb⟩, h2⟩ => ⟨by rw [e1, hb.2 h], h2⟩
theorem allof9_no (L : Nat) (v : Value) (m : Nat) (n : Nat → Nat) (S : Nat → Nat → Nat) (w : World) (hv : Lb w v m n S) (hmb : m ≤ 140737488355328) (h : ¬ ∀ i, i < m → n i = L) :
    Calls Tryz.prog 116 #[.int .i64 (L : Int), v] w fun e w' => e = .returned (.bool false) ∧ w' = w :=
  (allof9 L v m n S w hv hmb).mono fun e w' ⟨⟨b, e1, hb⟩, h2⟩ => ⟨by rw [e1]; cases b with | false => rfl | true => exact absurd (hb.1 rfl) h, h2⟩
set_option maxHeartbeats 2000000 in
set_option maxRecDepth 100000 in
theorem first9 (srcs dsts : Value) (k d : Nat) (ns nd : Nat → Nat) (S D : Nat → Nat → Nat) (w : World) (hs : Lb w srcs k ns S) (hd : Lb w dsts d nd D) :
    Calls Tryz.prog 120 #[srcs, dsts] w fun e w' => e = .returned (.int .i64 (len9 k d ns nd : Nat)) ∧ w' = w := by
  obtain ⟨V, ⟨hmb2, a, cap, rfl, -, -, h4⟩, hV⟩ := hs
  obtain ⟨V2, ⟨hmb3, a2, cap2, rfl, -, -, h42⟩, hV2⟩ := hd
  by_cases hk : 0 < k
  · obtain ⟨b, o, rfl, -, hc⟩ := h4 hk
    have q := hc 0 hk
    rw [Nat.add_zero] at q
    obtain ⟨s1, s2, x1, y1, e1, -, -, s4⟩ := hV 0 hk
    rw [e1] at q
    have ib : (0 : Int) < (k : Int) := by omega
    have HL : len9 k d ns nd = ns 0 := by unfold len9; rw [if_pos hk]
    clear hc h4 hV h42 hV2 s1 s2 s4 e1 hmb2 hmb3
    go_enter Tryz.func120, Tryz.ntmps120
    go_wp2
    go_ret
    exact ⟨by rw [HL]; rfl, rfl⟩
  · have hk0 : k = 0 := by omega
    subst hk0
    by_cases hd : 0 < d
    · obtain ⟨b, o, rfl, -, hc⟩ := h42 hd
      have q := hc 0 hd
      rw [Nat.add_zero] at q
      obtain ⟨s1, s2, x1, y1, e1, -, -, s4⟩ := hV2 0 hd
      rw [e1] at q
      have ib : (0 : Int) < (d : Int) := by omega
      have HL : len9 0 d ns nd = nd 0 := by unfold len9; rw [if_neg (by decide), if_pos hd]
      clear hc h4 hV h42 hV2 s1 s2 s4 e1 hmb2 hmb3
      go_enter Tryz.func120, Tryz.ntmps120
      go_wp2
      go_ret
      exact ⟨by rw [HL]; rfl, rfl⟩
    · have hd0 : d = 0 := by omega
      subst hd0
      clear h4 hV h42 hV2 hmb2 hmb3
      go_enter Tryz.func120, Tryz.ntmps120
      go_wp2
      go_ret
      exact ⟨rfl, rfl⟩
set_option maxHeartbeats 2000000 in
set_option maxRecDepth 100000 in
theorem within9_yes (fr to : Int) (L : Nat) (w : World) (h : FitR fr to L) :
    Calls Tryz.prog 117 #[.agg #[.int .i64 fr, .int .i64 to], .int .i64 (L : Int)] w fun e w' => e = .returned (.bool true) ∧ Below w.heap.size w w' := by
  obtain ⟨h1, h2, h3⟩ := h
  go_enter Tryz.func117, Tryz.ntmps117
  go_wp2
  go_ret
  exact ⟨rfl, (Below.refl _ _).alloc (Nat.le_refl _) _⟩
set_option maxHeartbeats 2000000 in
set_option maxRecDepth 100000 in
theorem within9_no (fr to : Int) (L : Nat) (w : World) (h : ¬ FitR fr to L) :
    Calls Tryz.prog 117 #[.agg #[.int .i64 fr, .int .i64 to], .int .i64 (L : Int)] w fun e w' => e = .returned (.bool false) ∧ Below w.heap.size w w' := by
  by_cases h1 : 0 ≤ fr
  · by_cases h2 : fr ≤ to
    · have h3 : ¬ (to ≤ (L : Int)) := fun h3 => h ⟨h1, h2, h3⟩
      clear h
      go_enter Tryz.func117, Tryz.ntmps117
      go_wp2
      go_ret
      exact ⟨rfl, (Below.refl _ _).alloc (Nat.le_refl _) _⟩
    · clear h
      go_enter Tryz.func117, Tryz.ntmps117
      go_wp2
      go_ret
      exact ⟨rfl, (Below.refl _ _).alloc (Nat.le_refl _) _⟩
  · clear h
    go_enter Tryz.func117, Tryz.ntmps117
    go_wp2
    go_ret
    exact ⟨rfl, (Below.refl _ _).alloc (Nat.le_refl _) _⟩
theorem ll_form {E : Nat → Prop} {w : World} {v : Value} {m : Nat} {n : Nat → Nat} {S : Nat → Nat → Nat} (h : Ll E w v m n S) : ∃ a c, v = .slice a m c := by
  obtain ⟨V, ⟨_, a, c, h, _⟩, _⟩ := h
  exact ⟨a, c, h⟩
theorem Ks.under {w w' : World} {p : Addr} {b lo hi : Nat} (h : Ks w p b lo hi) (hb : Below w.heap.size w w') : Ks w' p b lo hi :=
  h.keep (Nat.le_trans h.hi hb.size) (fun x _ hx => hb.block x (Nat.lt_of_lt_of_le hx h.hi))
set_option maxHeartbeats 2000000 in
set_option maxRecDepth 100000 in
theorem unfit9 (p : Addr) (bk lo hi m k d : Nat) (nr ns nd : Nat → Nat) (R S D : Nat → Nat → Nat) (fr to : Int) (rows srcs dsts : Value) (w : World) (hk : Ks w p bk lo hi) (hmb : m ≤ 140737488355328) (hkb : k ≤ 140737488355328) (hdb : d ≤ 140737488355328)
    (hr : Lb w rows m nr R) (hs : Lb w srcs k ns S) (hd : Lb w dsts d nd D) :
    Calls Tryz.prog 79 #[.pointer (some p), rows, srcs, dsts, .agg #[.int .i64 fr, .int .i64 to]] w fun e w' => e = .returned (.int .i64 (fit9 m k d nr ns nd fr to : Nat)) ∧ Below w.heap.size w w' := by
  obtain ⟨ar, cr, er⟩ := ll_form hr
  obtain ⟨as_, cs, es⟩ := ll_form hs
  obtain ⟨ad, cd, ed⟩ := ll_form hd
  subst er es ed
  have b1 : Below w.heap.size w (w.alloc (.cells #[.int .i64 fr, .int .i64 to] 65)) := (Below.refl _ _).alloc (Nat.le_refl _) _
  have c0 := isnil9_no p bk lo hi _ (hk.under b1)
  have c1 := first9 _ _ k d ns nd S D _ (hs.below b1) (hd.below b1)
  by_cases hmd : m = d
  case neg =>
    have hI : ¬ ((m : Int) = (d : Int)) := fun e => hmd (Int.ofNat.inj e)
    have H := fit9_six (m := m) (k := k) (d := d) (nr := nr) (ns := ns) (nd := nd) (fr := fr) (to := to) (fun h => hmd h.1)
    clear hr hs hd hk hmd
    go_enter Tryz.func79, Tryz.ntmps79
    go_wp2_with (first | (go_at_call 115; (with_reducible refine c0.mono ?_); rintro e w9 ⟨rfl, hw9⟩; have hw9 := hw9.symm; subst hw9) | (go_at_call 120; (with_reducible refine c1.mono ?_); rintro e w9 ⟨rfl, hw9⟩; have hw9 := hw9.symm; subst hw9))
    go_ret
    exact ⟨by rw [H]; rfl, b1⟩
  case pos =>
  subst hmd
  by_cases h1 : ∀ i, i < m → nr i = k
  case neg =>
    have H := fit9_six (m := m) (k := k) (d := m) (nr := nr) (ns := ns) (nd := nd) (fr := fr) (to := to) (fun h => h1 h.2.1)
    have c2 := allof9_no k _ m nr R _ (hr.below b1) hmb h1
    clear hr hs hd hk h1
    go_enter Tryz.func79, Tryz.ntmps79
    go_wp2_with (first | (go_at_call 115; (with_reducible refine c0.mono ?_); rintro e w9 ⟨rfl, hw9⟩; have hw9 := hw9.symm; subst hw9) | (go_at_call 120; (with_reducible refine c1.mono ?_); rintro e w9 ⟨rfl, hw9⟩; have hw9 := hw9.symm; subst hw9) | (go_at_call 116; first | ((with_reducible refine c2.mono ?_); rintro e w9 ⟨rfl, hw9⟩; have hw9 := hw9.symm; subst hw9)))
    go_ret
    exact ⟨by rw [H]; rfl, b1⟩
  case pos =>
  have c2 := allof9_yes k _ m nr R _ (hr.below b1) hmb h1
  by_cases h2 : ∀ i, i < k → ns i = len9 k m ns nd
  case neg =>
    have H := fit9_six (m := m) (k := k) (d := m) (nr := nr) (ns := ns) (nd := nd) (fr := fr) (to := to) (fun h => h2 h.2.2.1)
    have c3 := allof9_no (len9 k m ns nd) _ k ns S _ (hs.below b1) hkb h2
    clear hr hs hd hk h1 h2
    go_enter Tryz.func79, Tryz.ntmps79
    go_wp2_with (first | (go_at_call 115; (with_reducible refine c0.mono ?_); rintro e w9 ⟨rfl, hw9⟩; have hw9 := hw9.symm; subst hw9) | (go_at_call 120; (with_reducible refine c1.mono ?_); rintro e w9 ⟨rfl, hw9⟩; have hw9 := hw9.symm; subst hw9) | (go_at_call 116; first | ((with_reducible refine c2.mono ?_); rintro e w9 ⟨rfl, hw9⟩; have hw9 := hw9.symm; subst hw9) | ((with_reducible refine c3.mono ?_); rintro e w9 ⟨rfl, hw9⟩; have hw9 := hw9.symm; subst hw9)))
    go_ret
    exact ⟨by rw [H]; rfl, b1⟩
  case pos =>
  have c3 := allof9_yes (len9 k m ns nd) _ k ns S _ (hs.below b1) hkb h2
  by_cases h3 : ∀ i, i < m → nd i = len9 k m ns nd
  case neg =>
    have H := fit9_six (m := m) (k := k) (d := m) (nr := nr) (ns := ns) (nd := nd) (fr := fr) (to := to) (fun h => h3 h.2.2.2)
    have c4 := allof9_no (len9 k m ns nd) _ m nd D _ (hd.below b1) hmb h3
    clear hr hs hd hk h1 h2 h3
    go_enter Tryz.func79, Tryz.ntmps79
    go_wp2_with (first | (go_at_call 115; (with_reducible refine c0.mono ?_); rintro e w9 ⟨rfl, hw9⟩; have hw9 := hw9.symm; subst hw9) | (go_at_call 120; (with_reducible refine c1.mono ?_); rintro e w9 ⟨rfl, hw9⟩; have hw9 := hw9.symm; subst hw9) | (go_at_call 116; first | ((with_reducible refine c2.mono ?_); rintro e w9 ⟨rfl, hw9⟩; have hw9 := hw9.symm; subst hw9) | ((with_reducible refine c3.mono ?_); rintro e w9 ⟨rfl, hw9⟩; have hw9 := hw9.symm; subst hw9) | ((with_reducible refine c4.mono ?_); rintro e w9 ⟨rfl, hw9⟩; have hw9 := hw9.symm; subst hw9)))
    go_ret
    exact ⟨by rw [H]; rfl, b1⟩
  case pos =>
  have c4 := allof9_yes (len9 k m ns nd) _ m nd D _ (hd.below b1) hmb h3
  by_cases h4 : FitR fr to (len9 k m ns nd)
  case neg =>
    have H := fit9_seven (m := m) (k := k) (d := m) (nr := nr) (ns := ns) (nd := nd) (fr := fr) (to := to) ⟨rfl, h1, h2, h3⟩ h4
    have c5 := within9_no fr to (len9 k m ns nd) (w.alloc (.cells #[.int .i64 fr, .int .i64 to] 65)) h4
    clear hr hs hd hk h1 h2 h3 h4
    go_enter Tryz.func79, Tryz.ntmps79
    go_wp2_with (first | (go_at_call 115; (with_reducible refine c0.mono ?_); rintro e w9 ⟨rfl, hw9⟩; have hw9 := hw9.symm; subst hw9) | (go_at_call 120; (with_reducible refine c1.mono ?_); rintro e w9 ⟨rfl, hw9⟩; have hw9 := hw9.symm; subst hw9) | (go_at_call 116; first | ((with_reducible refine c2.mono ?_); rintro e w9 ⟨rfl, hw9⟩; have hw9 := hw9.symm; subst hw9) | ((with_reducible refine c3.mono ?_); rintro e w9 ⟨rfl, hw9⟩; have hw9 := hw9.symm; subst hw9) | ((with_reducible refine c4.mono ?_); rintro e w9 ⟨rfl, hw9⟩; have hw9 := hw9.symm; subst hw9)) | (go_at_call 117; (with_reducible refine c5.mono ?_); rintro e w5 ⟨rfl, hb5⟩))
    go_ret
    exact ⟨by rw [H]; rfl, b1.trans (hb5.mono b1.size)⟩
  case pos =>
  have H := fit9_zero (m := m) (k := k) (d := m) (nr := nr) (ns := ns) (nd := nd) (fr := fr) (to := to) ⟨rfl, h1, h2, h3⟩ h4
  have c5 := within9_yes fr to (len9 k m ns nd) (w.alloc (.cells #[.int .i64 fr, .int .i64 to] 65)) h4
  clear hr hs hd hk h1 h2 h3 h4
  go_enter Tryz.func79, Tryz.ntmps79
  go_wp2_with (first | (go_at_call 115; (with_reducible refine c0.mono ?_); rintro e w9 ⟨rfl, hw9⟩; have hw9 := hw9.symm; subst hw9) | (go_at_call 120; (with_reducible refine c1.mono ?_); rintro e w9 ⟨rfl, hw9⟩; have hw9 := hw9.symm; subst hw9) | (go_at_call 116; first | ((with_reducible refine c2.mono ?_); rintro e w9 ⟨rfl, hw9⟩; have hw9 := hw9.symm; subst hw9) | ((with_reducible refine c3.mono ?_); rintro e w9 ⟨rfl, hw9⟩; have hw9 := hw9.symm; subst hw9) | ((with_reducible refine c4.mono ?_); rintro e w9 ⟨rfl, hw9⟩; have hw9 := hw9.symm; subst hw9)) | (go_at_call 117; (with_reducible refine c5.mono ?_); rintro e w5 ⟨rfl, hb5⟩))
  go_ret
  exact ⟨by rw [H]; rfl, b1.trans (hb5.mono b1.size)⟩
end Go.Proofs.YtefolifecbhgoaaGreat
namespace Go.Proofs.YtefolifecbhgoaaGreat
open Go.RowKit Gf2
set_option linter.unusedVariables false

set_option maxHeartbeats 4000000 in
set_option maxRecDepth 100000 in
theorem kxor_gen (n g o N : Nat) (F : Nat → Nat) (rd : (Nat → Nat) → Nat → Nat) (a x : Option Addr) (ca cx : Nat) (w : World) (hn : n ≤ big)
    (hR : Rw w g N F) (hd : 0 < n → a = some ⟨g, o, none⟩ ∧ o + n ≤ N) (hx : 0 < n → Reads w g N n x rd) :
    Calls Tryz.prog 73 #[.slice a n ca, .slice x n cx] w fun e w' => e = .returned (.int .i64 0) ∧ Only g w w' ∧ Rw w' g N (goes (fun d s => d ^^^ s) o rd F n) := by
  by_cases h0 : 0 < n
  · obtain ⟨rfl, hoN⟩ := hd h0
    obtain ⟨h, q, rfl, hrd⟩ := hx h0
    have c1 : Hid (∀ w' G, Only g w w' → Rw w' g N G → ∀ i, i < n → rd G i < 256 ∧ w'.cell? ⟨h, q + i, none⟩ = some (.int .u8 (rd G i : Nat))) := hrd
    clear hrd
    go_enter Tryz.func73, Tryz.ntmps73
    go_wp2
    go_loopw [14] (fun i wr => ∃ k : Nat, k ≤ n ∧ i = .int .i64 k ∧ Only g w wr ∧ Rw wr g N (goes (fun d s => d ^^^ s) o rd F k)) (fun i _ => n - (intOf i).toNat)
    case atStart => exact ⟨0, Nat.zero_le _, rfl, Only.refl _ _, hR⟩
    case round =>
      obtain ⟨k, hk, rfl, ho, hr⟩ := hrel
      by_cases hlt : k < n
      · obtain ⟨G, hG⟩ : ∃ G, G = goes (fun d s => d ^^^ s) o rd F k := ⟨_, rfl⟩
        rw [← hG] at hr
        obtain ⟨ls, qs⟩ := c1.out wr G ho hr k hlt
        obtain ⟨s, hs⟩ : ∃ s, s = rd G k := ⟨_, rfl⟩
        rw [← hs] at ls qs
        have q1 := hr.2.2.cell (i := o + k) (by omega)
        have q2 := hr.2.2.frozen (o + k)
        have lf : G (o + k) ^^^ s < 256 := Nat.xor_lt_two_pow (n := 8) (hr.2.1 _ (by omega)) ls
        have new : Rw (wr.setCell ⟨g, o + k, none⟩ (.int .u8 (G (o + k) ^^^ s : Nat))) g N (goes (fun d s => d ^^^ s) o rd F (k + 1)) := by
          refine ⟨hr.1, fun i hi => ?_, (hr.2.2.set (o + k) _).congr (fun i hi => ?_)⟩
          · unfold goes
            rw [← hG, ← hs]
            split
            · exact lf
            · exact hr.2.1 i hi
          · unfold goes
            rw [← hG, ← hs]
            by_cases e : i = o + k
            · rw [if_pos e, if_pos e]
            · rw [if_neg e, if_neg e]
        have HP : Hid (Only g w (wr.setCell ⟨g, o + k, none⟩ (.int .u8 (G (o + k) ^^^ s : Nat))) ∧ Rw (wr.setCell ⟨g, o + k, none⟩ (.int .u8 (G (o + k) ^^^ s : Nat))) g N (goes (fun d s => d ^^^ s) o rd F (k + 1))) := ⟨ho.setCell _ _, new⟩
        have X := u8_xor_nat (G (o + k)) s (hr.2.1 _ (by omega)) ls
        have ib : ((k : Nat) : Int) < (n : Int) := by omega
        have W1 := wrap_succ8 (j := k) (by omega)
        clear new hr ho hG hs hR hd hx hn lf
        go_wp2
        go_roundw
        case rel => exact ⟨k + 1, hlt, by first | rfl | (rw [W1]; rfl), HP.out.1, HP.out.2⟩
        case measure => first | exact meas_lt8 hlt | (rw [W1]; exact meas_lt8 hlt)
      · have hkn : k = n := by omega
        subst hkn
        clear hx hd
        go_wp2
        go_ret
        exact ⟨rfl, ho, hr⟩
  · have hn0 : n = 0 := by omega
    subst hn0
    go_enter Tryz.func73, Tryz.ntmps73
    go_wp2
    refine wp_loop_rounds 1 ?_
    rw [rounds_succ]
    go_wp2
    go_ret
    exact ⟨rfl, Only.refl _ _, hR⟩
theorem kxor_far (n g o N : Nat) (F S : Nat → Nat) (a : Option Addr) (ca : Nat) (v : Value) (w : World) (hca : n ≤ ca) (hcb : ca ≤ big) (hn : n ≤ big)
    (hR : Rw w g N F) (hd : 0 < n → a = some ⟨g, o, none⟩) (hoN : o + n ≤ N) (hx : Re (fun x => x = g) w v n S) :
    Calls Tryz.prog 73 #[.slice a n ca, v] w fun e w' => e = .returned (.int .i64 0) ∧ Kp g w w' ∧ Rw w' g N (pl F o n (fun j => F (o + j) ^^^ S j)) := by
  obtain ⟨x, cx, hv, hcx⟩ : ∃ x cx, v = .slice x n cx ∧ n ≤ cx := by obtain ⟨_, _, a, cap, h, h', _⟩ := id hx; exact ⟨a, cap, h, h'⟩
  subst hv
  exact (kxor_gen n g o N F (fun _ => S) a x ca cx w hn hR (fun h => ⟨hd h, hoN⟩) (fun h => (hx.fk.reads h).only)).mono fun e w' ⟨h1, h2, h3⟩ => ⟨h1, h2.kp, h3.congr (fun i _ => goes_far _ _ _ _ _ _)⟩
end Go.Proofs.YtefolifecbhgoaaGreat
