import Derived.Test.YtefolifecbhgoaaGreatMbau
import Derived.Test.YtefolifecbhgoaaGreatMbav
import Derived.Test.YtefolifecbhgoaaGreatMbaw
namespace Go.Proofs.YtefolifecbhgoaaGreat
open Go.RowKit Gf2
set_option linter.unusedVariables false

set_option maxHeartbeats 2000000 in
set_option maxRecDepth 100000 in
theorem tail_0 (b keep ca cx : Nat) (a x : Option Addr) (w : World) :
    Calls Tryz.prog 201 #[.pointer (some ⟨b, 0, none⟩), .int .u8 (keep : Int), .slice a 0 ca, .slice x 0 cx] w fun e w' => (∃ v, e = .returned v) ∧ w' = w := by
  go_enter Tryz.func201, Tryz.ntmps201
  go_wp2
  go_end0
  exact ⟨⟨_, rfl⟩, rfl⟩
def Rdx (w : World) (g N o n : Nat) (x : Option Addr) (F S : Nat → Nat) : Prop := 0 < n → ∃ h q, x = some ⟨h, q, none⟩ ∧ Rdg w g N o n h q F S
theorem tail_any (b c keep g o n ca cx N : Nat) (a x : Option Addr) (F S : Nat → Nat) (w : World) (hb : Cb c b w) (hg : g ≠ b) (hkp : keep < 256) (hn : n < 8) (hR : Rw w g N F) (ha : 0 < n → a = some ⟨g, o, none⟩) (hoN : o + n ≤ N) (hx : Rdx w g N o n x F S) :
    Calls Tryz.prog 201 #[.pointer (some ⟨b, 0, none⟩), .int .u8 (keep : Int), .slice a n ca, .slice x n cx] w fun e w' => (∃ v, e = .returned v) ∧ Kp g w w' ∧ Rw w' g N (pl F o n (fun j => vmix c keep (F (o + j)) (S j))) := by
  by_cases h0 : 0 < n
  · obtain ⟨h, q, rfl, hr⟩ := hx h0
    obtain rfl := ha h0
    rcases (show n = 1 ∨ n = 2 ∨ n = 3 ∨ n = 4 ∨ n = 5 ∨ n = 6 ∨ n = 7 by omega) with rfl | rfl | rfl | rfl | rfl | rfl | rfl
    · exact tail_1 b c keep g o ca h q cx N F S w hb hg hkp hR hoN hr
    · exact tail_2 b c keep g o ca h q cx N F S w hb hg hkp hR hoN hr
    · exact tail_3 b c keep g o ca h q cx N F S w hb hg hkp hR hoN hr
    · exact tail_4 b c keep g o ca h q cx N F S w hb hg hkp hR hoN hr
    · exact tail_5 b c keep g o ca h q cx N F S w hb hg hkp hR hoN hr
    · exact tail_6 b c keep g o ca h q cx N F S w hb hg hkp hR hoN hr
    · exact tail_7 b c keep g o ca h q cx N F S w hb hg hkp hR hoN hr
  · obtain rfl : n = 0 := by omega
    refine (tail_0 b keep ca cx a x w).mono fun e w' ⟨h1, h2⟩ => ?_
    subst h2
    exact ⟨h1, Kp.refl _ _, hR.congr (fun i _ => by rw [pl_out (by omega)])⟩
def slen : Value → Nat
  | .slice _ n _ => n
  | _ => 0
structure Wk (w W : World) (g N b c o m r : Nat) (F S V : Nat → Nat) (a x : Option Addr) (ca cx : Nat) : Prop where
  kp : Kp g w W
  rw' : Rw W g N (pl F o m V)
  cb : Cb c b W
  ha : 0 < r → a = some ⟨g, o + m, none⟩
  hx : 0 < r → ∃ h q, x = some ⟨h, q + m, none⟩ ∧ Rdg w g N o (m + r) h q F S
  hca : r ≤ ca
  hcx : r ≤ cx
  hN : o + (m + r) ≤ N
section
variable {w W W' : World} {g N b c o m r : Nat} {F S V : Nat → Nat} {a x : Option Addr} {ca cx : Nat}
theorem Wk.store {y : Nat} (h : Wk w W g N b c o m r F S V a x ca cx) (hr : 8 ≤ r) (hg : g ≠ b) (hk : Kp g W W') (hR : Rw W' g N (pl (pl F o m V) (o + m) 8 (fun j => y / 256 ^ j % 256))) (hy : ∀ j, j < 8 → y / 256 ^ j % 256 = V (m + j)) :
    Kp g w W' ∧ Rw W' g N (pl F o (m + 8) V) ∧ Cb c b W' := by
  refine ⟨h.kp.trans hk, hR.congr (fun i _ => ?_), h.cb.keep hk hg⟩
  unfold pl
  by_cases e : o + m ≤ i ∧ i < o + m + 8
  · rw [if_pos e, if_pos (by omega)]
    show y / 256 ^ (i - (o + m)) % 256 = V (i - o)
    rw [hy _ (by omega), show m + (i - (o + m)) = i - o by omega]
  · rw [if_neg e]
    by_cases e2 : o ≤ i ∧ i < o + m
    · rw [if_pos e2, if_pos (by omega)]
    · rw [if_neg e2, if_neg (by omega)]
theorem Wk.dst (h : Wk w W g N b c o m r F S V a x ca cx) {i : Nat} (hi : i < r) : F (o + m + i) < 256 ∧ W.cell? ⟨g, o + m + i, none⟩ = some (.int .u8 (F (o + m + i) : Nat)) := by
  have h1 := h.rw'.2.2.cell (i := o + m + i) (by have := h.hN; omega)
  have h2 := h.rw'.2.1 (o + m + i) (by have := h.hN; omega)
  rw [pl_out (by omega)] at h1 h2
  exact ⟨h2, h1⟩
theorem Wk.src (h : Wk w W g N b c o m r F S V a x ca cx) (h0 : 0 < r) : ∃ h q, x = some ⟨h, q + m, none⟩ ∧ ∀ i, i < r → S (m + i) < 256 ∧ W.cell? ⟨h, q + m + i, none⟩ = some (.int .u8 (S (m + i) : Nat)) := by
  obtain ⟨p, q, e, hr⟩ := h.hx h0
  refine ⟨p, q, e, fun i hi => ?_⟩
  have := hr W _ h.kp h.rw' (m + i) (by omega) (by rw [pl_out (by omega)])
  rw [Nat.add_assoc q]
  exact this
theorem Wk.rest (h : Wk w W g N b c o m r F S V a x ca cx) : Rdx W g N (o + m) r x (pl F o m V) (fun j => S (m + j)) := fun h0 => by
  obtain ⟨p, q, e, hr⟩ := h.hx h0
  refine ⟨p, q + m, e, fun w' G hk hG i hi he => ?_⟩
  rw [pl_out (by omega), Nat.add_assoc o] at he
  have := hr w' G (h.kp.trans hk) hG (m + i) (by omega) he
  rw [Nat.add_assoc q]
  exact this
end
theorem rest_pl {keep c o m r : Nat} {F S V : Nat → Nat} (hV : ∀ j, V j = vmix c keep (F (o + j)) (S j)) (i : Nat) : pl (pl F o m V) (o + m) r (fun j => vmix c keep (pl F o m V (o + m + j)) (S (m + j))) i = pl F o (m + r) V i := by
  by_cases e : o + m ≤ i ∧ i < o + m + r
  · obtain ⟨j, rfl⟩ : ∃ j, i = o + m + j := ⟨i - (o + m), by omega⟩
    rw [pl_in (by omega), pl_out (by omega), Nat.add_assoc o, pl_in (by omega), hV]
  · unfold pl
    rw [if_neg e]
    by_cases e2 : o ≤ i ∧ i < o + m
    · rw [if_pos e2, if_pos (by omega)]
    · rw [if_neg e2, if_neg (by omega)]
theorem word_mix {c keep : Nat} {D S : Nat → Nat} (hk : keep < 256) (hD : ∀ i, i < 8 → D i < 256) (hS : ∀ i, i < 8 → S i < 256) :
    (wbs D 8 &&& wbs (fun _ => keep) 8) ^^^ wdk c (wbs S 8) 8 = wbs (fun i => vmix c keep (D i) (S i)) 8 := by
  rw [and_wbs hD (fun _ _ => hk), wdk_wbs hS 8 (Nat.le_refl _), xor_wbs (fun i hi => Nat.lt_of_le_of_lt Nat.and_le_left (hD i hi)) (fun i _ => fld8.fm_lt _ _)]
  rfl
end Go.Proofs.YtefolifecbhgoaaGreat

namespace Go.Proofs.YtefolifecbhgoaaGreat
open Go.RowKit Gf2
set_option linter.unusedVariables false

set_option maxHeartbeats 4000000 in
set_option maxRecDepth 100000 in
theorem work_nat (c kw keep n g o N ca cx : Nat) (F S V : Nat → Nat) (a x : Option Addr) (w : World) (hc : c < 256) (hkp : keep < 256) (hkw : kw = wbs (fun _ => keep) 8) (hca : n ≤ ca) (hcx : n ≤ cx)
    (hR : Rw w g N F) (ha : 0 < n → a = some ⟨g, o, none⟩) (hoN : o + n ≤ N) (hx : Rdx w g N o n x F S) (hV : ∀ j, V j = vmix c keep (F (o + j)) (S j)) :
    Calls Tryz.prog 196 #[.int .u8 (c : Int), .int .u64 (kw : Int), .slice a n ca, .slice x n cx] w fun e w' => (∃ v, e = .returned v) ∧ Kp g w w' ∧ Rw w' g N (pl F o n V) := by
  have u1 := colsOf_nat c w hc
  have iL : (Tryz.prog.info? 253).map (·.size) = some (colRow c 8).size := by rw [colRow_size]; exact info_col
  have aL := colRow_all c 8
  have sL : Hid (8 = (colRow c 8).size) := (colRow_size _ _).symm
  have TL : Hid (∀ (w1 : World) (A : Array Value), Cb c w1.heap.size ((w1.alloc (.cells A 253)).setRow w1.heap.size (colRow c 8))) := fun w1 A => cb_laid
  have lkw : kw < 18446744073709551616 := by rw [hkw]; exact wbs_lt (k := 8) (fun _ _ => hkp)
  have BK : IntKind.u8.wrap (kw : Int) = (keep : Int) := by
    have h := wbs_byte (S := fun _ => keep) (k := 8) (fun _ _ => hkp) 0 (by decide)
    rw [← hkw, Nat.pow_zero, Nat.div_one] at h
    rw [IntKind.wrap_u8]; omega
  obtain ⟨L, hL⟩ : ∃ L, L = colRow c 8 := ⟨_, rfl⟩
  rw [← hL] at u1 iL aL sL TL
  have HI : Hid (c < 256 ∧ keep < 256 ∧ kw = wbs (fun _ => keep) 8 ∧ kw < 18446744073709551616 ∧ Rw w g N F ∧ ∀ j, V j = vmix c keep (F (o + j)) (S j)) := ⟨hc, hkp, hkw, lkw, hR, hV⟩
  have HW : Hid (∀ (w1 : World) (A : Array Value), Below w.heap.size w w1 → Wk w ((w1.alloc (.cells A 253)).setRow w1.heap.size L) g N w1.heap.size c o 0 n F S V a x ca cx) := fun w1 A hb1 => by
    have B2 : Below w.heap.size w ((w1.alloc (.cells A 253)).setRow w1.heap.size L) := below_setRow (hb1.alloc hb1.size _) hb1.size _
    refine ⟨kp_below B2 g, (rw_below hR B2).congr (fun i _ => by rw [pl_out (by omega)]), TL.out w1 A, ha, fun h0 => ?_, hca, hcx, by omega⟩
    obtain ⟨h, q, e, hr⟩ := hx h0
    exact ⟨h, q, e, by rw [Nat.zero_add]; exact hr⟩
  clear hL hc hkp hkw lkw hR hV hca hcx ha hoN hx
  go_enter Tryz.func196, Tryz.ntmps196
  go_wp2_with (first | (go_at_call 197; (with_reducible refine u1.mono ?_); rintro e w1 ⟨rfl, hb1⟩) | (refine wpList_store_row rfl 253 _ _ rfl w1.heap.size L rfl rfl 253 _ (heap_alloc_new _ _) iL sL.out aL ?_))
  have hgb : g ≠ w1.heap.size := by have := hb1.size; have := HI.out.2.2.2.2.1.lt; omega
  clear TL iL aL sL
  simp only [Act.put]
  go_loopw [2, 3] (fun dv sv wr => ∃ (m r : Nat) (a' x' : Option Addr) (ca' cx' : Nat), m + r = n ∧ dv = .slice a' r ca' ∧ sv = .slice x' r cx' ∧ Wk w wr g N w1.heap.size c o m r F S V a' x' ca' cx') (fun _ sv _ => slen sv)
  case atStart => exact ⟨0, n, _, _, _, _, Nat.zero_add _, rfl, rfl, HW.out w1 _ hb1⟩
  case round =>
    obtain ⟨m, r, a', x', ca', cx', hmr, rfl, rfl, hW⟩ := hrel
    by_cases hlt : 8 ≤ r
    · have i8 : (8 : Int) ≤ (r : Int) := by omega
      obtain rfl := hW.ha (by omega)
      obtain ⟨h, q, rfl, hsrc⟩ := hW.src (by omega)
      have lD : ∀ i, i < 8 → F (o + m + i) < 256 := fun i hi => (hW.dst (i := i) (by omega)).1
      have lS : ∀ i, i < 8 → S (m + i) < 256 := fun i hi => (hsrc i (by omega)).1
      have c1 := load_nat g (o + m) r ca' (fun i => F (o + m + i)) wr hlt lD (fun i hi => (hW.dst (i := i) (by omega)).2)
      have c2 := load_nat h (q + m) r cx' (fun i => S (m + i)) wr.drew hlt lS (fun i hi => (hsrc i (by omega)).2)
      have c3 := word_nat c (wbs (fun i => S (m + i)) 8) w1.heap.size wr.drew.drew hW.cb.drew.drew (wbs_lt (k := 8) lS)
      have hmix := word_mix (c := c) (keep := keep) (D := fun i => F (o + m + i)) (S := fun i => S (m + i)) HI.out.2.1 lD lS
      rw [← HI.out.2.2.1] at hmix
      have ld : wbs (fun i => F (o + m + i)) 8 < 18446744073709551616 := wbs_lt (k := 8) lD
      have lw : wdk c (wbs (fun i => S (m + i)) 8) 8 < 18446744073709551616 := wdk_lt c _ 8
      have A1 := u64_and_nat (wbs (fun i => F (o + m + i)) 8) kw ld HI.out.2.2.2.1
      have X1 := u64_xor_nat _ _ (Nat.lt_of_le_of_lt (Nat.and_le_left (n := wbs (fun i => F (o + m + i)) 8) (m := kw)) ld) lw
      rw [hmix] at X1
      have ly : wbs (fun i => vmix c keep (F (o + m + i)) (S (m + i))) 8 < 18446744073709551616 := wbs_lt (k := 8) (fun i hi => vmix_lt (lD i hi))
      have hb8 := fun j (hj : j < 8) => wbs_byte (S := fun i => vmix c keep (F (o + m + i)) (S (m + i))) (k := 8) (fun i hi => vmix_lt (lD i hi)) j hj
      have Rd : Rw wr.drew.drew.drew g N (pl F o m V) := ⟨hW.rw'.1, hW.rw'.2.1, hW.rw'.2.2.drew.drew.drew⟩
      have c4 := store_nat g (o + m) r ca' N _ (pl F o m V) wr.drew.drew.drew hlt Rd (by have := hW.hN; omega) ly
      obtain ⟨dW, hdW⟩ : ∃ d, d = wbs (fun i => F (o + m + i)) 8 := ⟨_, rfl⟩
      obtain ⟨sW, hsW⟩ : ∃ d, d = wbs (fun i => S (m + i)) 8 := ⟨_, rfl⟩
      obtain ⟨pW, hpW⟩ : ∃ d, d = wdk c (wbs (fun i => S (m + i)) 8) 8 := ⟨_, rfl⟩
      obtain ⟨yW, hyW⟩ : ∃ d, d = wbs (fun i => vmix c keep (F (o + m + i)) (S (m + i))) 8 := ⟨_, rfl⟩
      rw [← hdW] at c1 A1 X1
      obtain ⟨eW, heW⟩ : ∃ d, d = dW &&& kw := ⟨_, rfl⟩
      rw [← heW] at A1 X1
      rw [← hpW] at c3 X1
      rw [← hsW] at c2 c3
      rw [← hyW] at c4 X1 hb8
      have HV : Hid (Wk w wr g N w1.heap.size c o m r F S V (some ⟨g, o + m, none⟩) (some ⟨h, q + m, none⟩) ca' cx' ∧ ∀ j, j < 8 → yW / 256 ^ j % 256 = V (m + j)) := ⟨hW, fun j hj => by rw [hb8 j hj, HI.out.2.2.2.2.2, Nat.add_assoc]⟩
      clear hW hsrc lD lS hmix ld lw ly hb8 Rd hdW hsW hpW hyW heW
      go_wp2_with (first | (go_at_call 199; first | ((with_reducible refine c1.mono ?_); rintro e w9 ⟨rfl, rfl⟩; clear c1) | ((with_reducible refine c2.mono ?_); rintro e w9 ⟨rfl, rfl⟩; clear c2)) | (go_at_call 200; (with_reducible refine c3.mono ?_); rintro e w9 ⟨rfl, rfl⟩) | (go_at_call 198; (with_reducible refine c4.mono ?_); rintro e w5 ⟨⟨v5, rfl⟩, k5, r5⟩; have HS : Hid (Kp g w w5 ∧ Rw w5 g N (pl F o (m + 8) V) ∧ Cb c w1.heap.size w5) := HV.out.1.store hlt hgb ((Kp.refl g wr).drew.drew.drew.trans k5) r5 HV.out.2; clear k5 r5 c4 c3))
      refine region_still7 (by kernel_rfl) (by kernel_rfl) ?_
      repeat still_step
      refine wpStill_nil ?_
      go_wp2
      go_roundw
      case rel =>
        obtain ⟨s1, s2, s3⟩ := HS.out
        have z := HV.out.1
        refine ⟨m + 8, r - 8, _, _, _, _, by omega, rfl, rfl, s1.drew, ⟨s2.1, s2.2.1, s2.2.2.drew⟩, s3.drew, fun h0 => ?_, fun h0 => ?_, by have := z.hca; omega, by have := z.hcx; omega, by have := z.hN; omega⟩
        · have := z.hca
          rw [if_neg (by omega)]; rfl
        · have := z.hcx
          obtain ⟨h', q', e, hr⟩ := z.hx (by omega)
          refine ⟨h', q', ?_, by rw [show m + 8 + (r - 8) = m + r by omega]; exact hr⟩
          obtain ⟨rfl, rfl⟩ : h = h' ∧ q = q' := by simpa using e
          rw [if_neg (by omega)]; rfl
      case measure => simp [slen]; omega
    · have i8 : ¬ ((8 : Int) ≤ (r : Int)) := by omega
      have c5 := tail_any w1.heap.size c keep g (o + m) r ca' cx' N a' x' (pl F o m V) (fun j => S (m + j)) wr hW.cb hgb HI.out.2.1 (by omega) hW.rw' hW.ha (by have := hW.hN; omega) hW.rest
      have HV : Hid (Kp g w wr ∧ ∀ W', Kp g wr W' → Rw W' g N (pl (pl F o m V) (o + m) r (fun j => vmix c keep (pl F o m V (o + m + j)) (S (m + j)))) → Kp g w W' ∧ Rw W' g N (pl F o n V)) := ⟨hW.kp, fun W' h1 h2 => ⟨hW.kp.trans h1, h2.congr (fun i _ => by rw [rest_pl HI.out.2.2.2.2.2 i, hmr])⟩⟩
      clear hW
      go_wp2_with (go_at_call 201; (with_reducible refine c5.mono ?_); rintro e w5 ⟨⟨v5, rfl⟩, k5, r5⟩; have HS := HV.out.2 _ k5 r5; clear c5)
      go_end0
      exact ⟨⟨_, rfl⟩, HS⟩
end Go.Proofs.YtefolifecbhgoaaGreat

namespace Go.Proofs.YtefolifecbhgoaaGreat
open Go.RowKit Gf2
set_option linter.unusedVariables false

def Sk (w : World) (p : Addr) (lo hi : Nat) : Prop := lo ≤ hi ∧ hi ≤ w.heap.size
theorem Sk.hi {w : World} {p : Addr} {lo hi : Nat} (h : Sk w p lo hi) : hi ≤ w.heap.size := h.2
theorem Sk.keep {w w' : World} {p : Addr} {lo hi : Nat} (h : Sk w p lo hi) (hs : hi ≤ w'.heap.size) (hb : ∀ b, lo ≤ b → b < hi → w'.heap[b]? = w.heap[b]?) : Sk w' p lo hi := ⟨h.1, hs⟩

set_option maxHeartbeats 2000000 in
theorem unfit7_ok (p : Addr) (n : Nat) (a x : Option Addr) (ca cx : Nat) (w : World) :
    Calls Tryz.prog 195 #[.pointer (some p), .slice a n ca, .slice x n cx] w fun e w' => e = .returned (.int .i64 0) ∧ w' = w := by
  go_enter Tryz.func195, Tryz.ntmps195
  go_wp2
  go_ret
  exact ⟨rfl, rfl⟩
set_option maxHeartbeats 2000000 in
theorem snew_any (w : World) :
    Calls Tryz.prog 49 #[] w fun e w' => ∃ p, e = .returned (.pointer (some p)) ∧ Sk w' p w.heap.size w'.heap.size ∧ Below w.heap.size w w' := by
  go_enter Tryz.func49, Tryz.ntmps49
  go_wp2
  go_ret
  refine ⟨_, rfl, ⟨?_, Nat.le_refl _⟩, ?_⟩
  · simp
  · exact (Below.refl _ _).alloc (Nat.le_refl _) _
theorem vmix_all (c d s : Nat) (h : d < 256) : vmix c 255 d s = d ^^^ fm 285 c s := by
  unfold vmix
  rw [show (255 : Nat) = 2 ^ 8 - 1 from rfl, Nat.and_two_pow_sub_one_eq_mod, Nat.mod_eq_of_lt h]
theorem Fk.rdx {w : World} {g N o n : Nat} {x : Option Addr} {F S : Nat → Nat} (h : Fk w g n x S) : Rdx w g N o n x F S := fun h0 => by
  obtain ⟨b, q, e, hne, hl, hc⟩ := h.2 h0
  exact ⟨b, q, e, fun w' G hk hG i hi _ => ⟨h.1 i hi, (hk.cell hl hne).trans (hc i hi)⟩⟩
set_option maxHeartbeats 2000000 in
theorem sadd_gen (p : Addr) (c n g o N ca cx : Nat) (F S V : Nat → Nat) (a x : Option Addr) (w : World) (hc : c < 256) (hca : n ≤ ca) (hcx : n ≤ cx)
    (hR : Rw w g N F) (ha : 0 < n → a = some ⟨g, o, none⟩) (hoN : o + n ≤ N) (hx : Rdx w g N o n x F S) (hV : ∀ j, V j = vmix c 255 (F (o + j)) (S j)) :
    Calls Tryz.prog 194 #[.pointer (some p), .int .u8 (c : Int), .slice a n ca, .slice x n cx] w fun e w' => e = .returned (.int .i64 0) ∧ Kp g w w' ∧ Rw w' g N (pl F o n V) := by
  have c1 := fun W => unfit7_ok p n a x ca cx W
  have c2 : Calls Tryz.prog 196 #[.int .u8 (c : Int), .int .u64 18446744073709551615, .slice a n ca, .slice x n cx] w fun e w' => (∃ v, e = .returned v) ∧ Kp g w w' ∧ Rw w' g N (pl F o n V) :=
    work_nat c 18446744073709551615 255 n g o N ca cx F S V a x w hc (by decide) (by decide) hca hcx hR ha hoN hx hV
  clear hc hca hcx hR ha hoN hx hV
  go_enter Tryz.func194, Tryz.ntmps194
  go_wp2_with (first | (go_at_call 195; (with_reducible refine (c1 _).mono ?_); rintro e w9 ⟨rfl, hw9⟩; have hw9 := hw9.symm; subst hw9) | (go_at_call 196; (with_reducible refine c2.mono ?_); rintro e w5 ⟨⟨v5, rfl⟩, k5, r5⟩))
  go_ret
  exact ⟨rfl, k5, r5⟩
theorem plx {w : World} {g N o n c : Nat} {F S : Nat → Nat} (hR : ∀ i, i < N → F i < 256) (hoN : o + n ≤ N) (h : Rw w g N (pl F o n (fun j => vmix c 255 (F (o + j)) (S j)))) : Rw w g N (pl F o n (fun j => F (o + j) ^^^ fm 285 c (S j))) :=
  h.congr (fun i hi => by
    unfold pl
    split
    · next e => exact vmix_all _ _ _ (hR _ (by omega))
    · rfl)
theorem sadd_far (p : Addr) (lo hi c n g o N : Nat) (F S : Nat → Nat) (a x : Option Addr) (ca cx : Nat) (hca : n ≤ ca) (hcx : n ≤ cx) (w : World) (hk : Sk w p lo hi) (hc : c < 256) (hn : n ≤ big) (hg : g < lo ∨ hi ≤ g)
    (hR : Rw w g N F) (hd : 0 < n → a = some ⟨g, o, none⟩) (hoN : o + n ≤ N) (hx : Fk w g n x S) :
    Calls Tryz.prog 194 #[.pointer (some p), .int .u8 (c : Int), .slice a n ca, .slice x n cx] w fun e w' => e = .returned (.int .i64 0) ∧ Kp g w w' ∧ Rw w' g N (pl F o n (fun j => F (o + j) ^^^ fm 285 c (S j))) :=
  (sadd_gen p c n g o N ca cx F S _ a x w hc hca hcx hR hd hoN hx.rdx (fun j => rfl)).mono fun e w' ⟨h1, h2, h3⟩ => ⟨h1, h2, plx hR.2.1 hoN h3⟩
end Go.Proofs.YtefolifecbhgoaaGreat
