import Derived.Test.YtdnjddnjaekgeabNbd
import Derived.Test.YtdnjddnjaekgeabEbo
import Derived.Test.YtdnjddnjaekgeabEbm
import Derived.Deep.RegionHeld
namespace Go.Proofs.Ytdnjddnjaekgeab
open Go.RowKit Gf2
set_option linter.unusedVariables false

section
variable {W0 W : World} {K : Nat} {N B : Nat → Nat} {G : Nat → Nat → Nat} {q : Addr} {lo hi : Nat}
theorem Fk.far {g n : Nat} {x : Option Addr} {S : Nat → Nat} (h : Fk W g n x S) : Far W g n x S := ⟨h.1, fun h0 => by
  obtain ⟨b, o, e, h1, -, h2⟩ := h.2 h0
  exact ⟨b, o, e, h1, h2⟩⟩
theorem Ow.ker (h : Ow W0 K N B G W) (hk : Ker W0 q lo hi) : Ker W q lo hi := ker_below hk h.1
theorem ow_tmul (h : Ow W0 K N B G W) (hk : Ker W0 q lo hi) (t c n : Nat) {b : Nat} (ca cx : Nat) {x : Option Addr} {S : Nat → Nat} (hb : b = B t) (ht : t < K) (nt : N t = n) (hc : c < 256) (hv : Fk W (B t) n x S) :
    Calls Try.prog 10 #[.pointer (some q), .int .u8 (c : Int), .slice (some ⟨b, 0, none⟩) n ca, .slice x n cx] W fun e w' => e = .returned (.int .i64 0) ∧ Ow W0 K N B (upn G t (fun i => fm 285 c (S i))) w' := by
  subst hb
  have hr := h.row ht
  have hl := h.lo ht
  have hh := hk.hi
  refine (kmul_far q lo hi c n (B t) 0 n (G t) S _ x ca cx W (h.ker hk) hc (nt ▸ hr.1) (.inr (by omega)) (nt ▸ hr) (fun _ => ⟨rfl, by omega⟩) hv.far).mono fun e w' ⟨a1, a2, a3⟩ => ⟨a1, h.turn ht a2.kp ?_⟩
  rw [nt]
  exact a3.congr (fun i hi => by have := pl_in (F := G t) (o := 0) (S := fun i => fm 285 c (S i)) hi; rwa [Nat.zero_add] at this)
theorem ow_tadd (h : Ow W0 K N B G W) (hk : Ker W0 q lo hi) (t c n : Nat) {b : Nat} (ca cx : Nat) {x : Option Addr} {S : Nat → Nat} (hb : b = B t) (ht : t < K) (nt : N t = n) (hc : c < 256) (hv : Fk W (B t) n x S) :
    Calls Try.prog 13 #[.pointer (some q), .int .u8 (c : Int), .slice (some ⟨b, 0, none⟩) n ca, .slice x n cx] W fun e w' => e = .returned (.int .i64 0) ∧ Ow W0 K N B (upn G t (fun i => G t i ^^^ fm 285 c (S i))) w' := by
  subst hb
  have hr := h.row ht
  have hl := h.lo ht
  have hh := hk.hi
  refine (kadd_far q lo hi c n (B t) 0 n (G t) S _ x ca cx W (h.ker hk) hc (nt ▸ hr.1) (.inr (by omega)) (nt ▸ hr) (fun _ => ⟨rfl, by omega⟩) hv.far).mono fun e w' ⟨a1, a2, a3⟩ => ⟨a1, h.turn ht a2.kp ?_⟩
  rw [nt]
  exact a3.congr (fun i hi => by have := pl_in (F := G t) (o := 0) (S := fun i => G t (0 + i) ^^^ fm 285 c (S i)) hi; simp only [Nat.zero_add] at this ⊢; exact this)
end

set_option maxHeartbeats 4000000 in
set_option maxRecDepth 100000 in
theorem table_same (c : Nat) (u v : Value) (n : Nat) (D S : Nat → Nat) (w : World) (hc : c < 256) (hu : Rb w u n D) (hv : Rb w v n S) (hm : n ≤ 140737488351232) :
    Calls Try.prog 3 #[.int .u8 (c : Int), u, v] w fun e w' => e = .returned (.bool true) ∧ Below w.heap.size w w' := by
  obtain ⟨x, cx, rfl⟩ : ∃ x cx, u = .slice x n cx := by obtain ⟨_, _, a, cap, h, _⟩ := hu; exact ⟨a, cap, h⟩
  obtain ⟨y, cy, rfl⟩ : ∃ x cx, v = .slice x n cx := by obtain ⟨_, _, a, cap, h, _⟩ := hv; exact ⟨a, cap, h⟩
  have hn : n ≤ 140737488355328 := by omega
  have hnb : n ≤ big := hu.1
  have c1 := nnew_any w
  go_enter Try.func3, Try.ntmps3
  go_wp2_with (first | (go_at_call 5; ((with_reducible refine (c1).mono ?_); (rintro e w1 ⟨p, rfl, hk1, hb1⟩; have c2 := tknew_any w1))) | (go_at_call 6; ((with_reducible refine (c2).mono ?_); (rintro e w2 ⟨q, rfl, hq2, hb2⟩; have hk2 := nk_below hk1 hb2; have c3 := fixed6_any w2; have hb02 := hb1.trans (hb2.mono hb1.size); have hu2 := hu.below hb02; have hv2 := hv.below hb02; have s0 := Ow.start w2 (fun _ => 0) (fun _ => 0) (fun _ _ => 0)))) | (go_at_call 7; ((with_reducible refine (c3).mono ?_); (rintro e w3 ⟨rfl, hb3⟩; have s1 := s0.still hb3; have q1 := ow_copied s1 n (s1.src hu2) hn))) | (go_at_call 8; first | ((with_reducible refine (q1).mono ?_); (rintro e w4 ⟨b4, rfl, s2⟩; have q2 := ow_copied s2 n (s2.src hu2) hn)) | ((with_reducible refine (q2).mono ?_); (rintro e w5 ⟨b5, rfl, s3⟩; have q3 := ow_copied s3 n (s3.src hv2) hn)) | ((with_reducible refine (q3).mono ?_); (rintro e w6 ⟨b6, rfl, s4⟩; have q4 := ow_mul s4 hk2 0 c n (b := b4) n n rfl (by decide) rfl hc (s4.farRow 2 0 n (b := b6) rfl (by decide) (by decide) (by decide) (Nat.le_refl _)))) | ((with_reducible refine (q5).mono ?_); (rintro e w8 ⟨b8, rfl, s6⟩; have q6 := ow_tmul s6 hq2 1 c n (b := b5) n n rfl (by decide) rfl hc (s6.farRow 3 1 n (b := b8) rfl (by decide) (by decide) (by decide) (Nat.le_refl _))))) | (go_at_call 9; ((with_reducible refine (q4).mono ?_); (rintro e w7 ⟨rfl, s5⟩; have q5 := ow_copied s5 n (s5.src hv2) hn))) | (go_at_call 10; ((with_reducible refine (q6).mono ?_); (rintro e w9 ⟨rfl, s7⟩; have q7 := ow_equal s7 n (s7.own 0 n n (b := b4) rfl (by decide) rfl (Nat.le_refl _) hnb) (s7.own 1 n n (b := b5) rfl (by decide) rfl (Nat.le_refl _) hnb) (fun i hi => rfl)))) | (go_at_call 11; ((with_reducible refine (q7).mono ?_); (rintro e w10 ⟨rfl, s8⟩; have r0 := ow_copied s8 n (s8.src hu2) hn; clear q1 q2 q3 q4 q5 q6 q7 s0 s1 s2 s3 s4 s5 s6 s7))))
  go_wp2_with (first | (go_at_call 8; first | ((with_reducible refine (r0).mono ?_); (rintro e w11 ⟨b11, rfl, t1⟩; have r1 := ow_copied t1 n (t1.src hu2) hn)) | ((with_reducible refine (r1).mono ?_); (rintro e w12 ⟨b12, rfl, t2⟩; have r2 := ow_copied t2 n (t2.src hv2) hn)) | ((with_reducible refine (r2).mono ?_); (rintro e w13 ⟨b13, rfl, t3⟩; have r3 := ow_add t3 hk2 4 c n (b := b11) n n rfl (by decide) rfl hc (t3.farRow 6 4 n (b := b13) rfl (by decide) (by decide) (by decide) (Nat.le_refl _)))) | ((with_reducible refine (r4).mono ?_); (rintro e w15 ⟨b15, rfl, t5⟩; have r5 := ow_tadd t5 hq2 5 c n (b := b12) n n rfl (by decide) rfl hc (t5.farRow 7 5 n (b := b15) rfl (by decide) (by decide) (by decide) (Nat.le_refl _))))) | (go_at_call 12; ((with_reducible refine (r3).mono ?_); (rintro e w14 ⟨rfl, t4⟩; have r4 := ow_copied t4 n (t4.src hv2) hn))) | (go_at_call 13; ((with_reducible refine (r5).mono ?_); (rintro e w16 ⟨rfl, t6⟩; have r6 := ow_equal t6 n (t6.own 4 n n (b := b11) rfl (by decide) rfl (Nat.le_refl _) hnb) (t6.own 5 n n (b := b12) rfl (by decide) rfl (Nat.le_refl _) hnb) (fun i hi => rfl)))) | (go_at_call 11; ((with_reducible refine (r6).mono ?_); (rintro e w17 ⟨rfl, t7⟩))))
  go_ret
  exact ⟨rfl, hb02.trans (t7.1.mono hb02.size)⟩
set_option maxHeartbeats 4000000 in
set_option maxRecDepth 100000 in
theorem table_unlike (c : Nat) (u v : Value) (n m : Nat) (D S : Nat → Nat) (w : World) (hc : c < 256) (hu : Rb w u n D) (hv : Rb w v m S) (hm : n ≤ 140737488351232) (hm2 : m ≤ 140737488351232) (hnm : n ≠ m) :
    Calls Try.prog 3 #[.int .u8 (c : Int), u, v] w fun e w' => e = .returned (.bool true) ∧ Below w.heap.size w w' := by
  obtain ⟨x, cx, rfl⟩ : ∃ x cx, u = .slice x n cx := by obtain ⟨_, _, a, cap, h, _⟩ := hu; exact ⟨a, cap, h⟩
  obtain ⟨y, cy, rfl⟩ : ∃ x cx, v = .slice x m cx := by obtain ⟨_, _, a, cap, h, _⟩ := hv; exact ⟨a, cap, h⟩
  have hn : n ≤ 140737488355328 := by omega
  have hnb : n ≤ big := hu.1
  have hn2 : m ≤ 140737488355328 := by omega
  have nb : ((n : Int) == (m : Int)) = false := by simp; omega
  have c1 := nnew_any w
  go_enter Try.func3, Try.ntmps3
  go_wp2_with (first | (go_at_call 5; ((with_reducible refine (c1).mono ?_); (rintro e w1 ⟨p, rfl, hk1, hb1⟩; have c2 := tknew_any w1))) | (go_at_call 6; ((with_reducible refine (c2).mono ?_); (rintro e w2 ⟨q, rfl, hq2, hb2⟩; have hk2 := nk_below hk1 hb2; have c3 := fixed6_any w2; have hb02 := hb1.trans (hb2.mono hb1.size); have hu2 := hu.below hb02; have hv2 := hv.below hb02; have s0 := Ow.start w2 (fun _ => 0) (fun _ => 0) (fun _ _ => 0)))) | (go_at_call 7; ((with_reducible refine (c3).mono ?_); (rintro e w3 ⟨rfl, hb3⟩; have s1 := s0.still hb3; have q1 := ow_copied s1 n (s1.src hu2) hn))) | (go_at_call 8; first | ((with_reducible refine (q1).mono ?_); (rintro e w4 ⟨b4, rfl, s2⟩; have q2 := ow_copied s2 n (s2.src hu2) hn)) | ((with_reducible refine (q2).mono ?_); (rintro e w5 ⟨b5, rfl, s3⟩; have q3 := ow_copied s3 m (s3.src hv2) hn2)) | ((with_reducible refine (q3).mono ?_); (rintro e w6 ⟨b6, rfl, s4⟩; have q4 := nmul_lens p _ _ c n m (some ⟨b4, 0, none⟩) (some ⟨b6, 0, none⟩) n m w6 (s4.nk hk2) hnm)) | ((with_reducible refine (q5).mono ?_); (rintro e w8 ⟨b8, rfl, s6⟩; have q6 := kmul_lens q _ _ c n m (some ⟨b5, 0, none⟩) (some ⟨b8, 0, none⟩) n m w8 (s6.ker hq2) hnm))) | (go_at_call 9; ((with_reducible refine (q4).mono ?_); (rintro e w7 ⟨rfl, hw7⟩; have hw7 := hw7.symm; subst hw7; have s5 := s4; have q5 := ow_copied s5 m (s5.src hv2) hn2))) | (go_at_call 10; ((with_reducible refine (q6).mono ?_); (rintro e w9 ⟨rfl, hw9⟩; have hw9 := hw9.symm; subst hw9; have s7 := s6; have q7 := ow_equal s7 n (s7.own 0 n n (b := b4) rfl (by decide) rfl (Nat.le_refl _) hnb) (s7.own 1 n n (b := b5) rfl (by decide) rfl (Nat.le_refl _) hnb) (fun i hi => rfl)))) | (go_at_call 11; ((with_reducible refine (q7).mono ?_); (rintro e w10 ⟨rfl, s8⟩; have r0 := ow_copied s8 n (s8.src hu2) hn; clear q1 q2 q3 q4 q5 q6 q7 s0 s1 s2 s3 s4 s5 s6 s7))))
  go_wp2_with (first | (go_at_call 8; first | ((with_reducible refine (r0).mono ?_); (rintro e w11 ⟨b11, rfl, t1⟩; have r1 := ow_copied t1 n (t1.src hu2) hn)) | ((with_reducible refine (r1).mono ?_); (rintro e w12 ⟨b12, rfl, t2⟩; have r2 := ow_copied t2 m (t2.src hv2) hn2)) | ((with_reducible refine (r2).mono ?_); (rintro e w13 ⟨b13, rfl, t3⟩; have r3 := nadd_lens p _ _ c n m (some ⟨b11, 0, none⟩) (some ⟨b13, 0, none⟩) n m w13 (t3.nk hk2) hnm)) | ((with_reducible refine (r4).mono ?_); (rintro e w15 ⟨b15, rfl, t5⟩; have r5 := kadd_lens q _ _ c n m (some ⟨b12, 0, none⟩) (some ⟨b15, 0, none⟩) n m w15 (t5.ker hq2) hnm))) | (go_at_call 12; ((with_reducible refine (r3).mono ?_); (rintro e w14 ⟨rfl, hw14⟩; have hw14 := hw14.symm; subst hw14; have t4 := t3; have r4 := ow_copied t4 m (t4.src hv2) hn2))) | (go_at_call 13; ((with_reducible refine (r5).mono ?_); (rintro e w16 ⟨rfl, hw16⟩; have hw16 := hw16.symm; subst hw16; have t6 := t5; have r6 := ow_equal t6 n (t6.own 4 n n (b := b11) rfl (by decide) rfl (Nat.le_refl _) hnb) (t6.own 5 n n (b := b12) rfl (by decide) rfl (Nat.le_refl _) hnb) (fun i hi => rfl)))) | (go_at_call 11; ((with_reducible refine (r6).mono ?_); (rintro e w17 ⟨rfl, t7⟩))))
  go_ret
  exact ⟨rfl, hb02.trans (t7.1.mono hb02.size)⟩
theorem table_any {w : World} (c : Nat) (hc : c < 256) (a : Option Addr) (n ca : Nat) (hu : Rbm w a n ca) (b : Option Addr) (m cb : Nat) (hv : Rbm w b m cb) :
    Calls Try.prog 3 #[.int .u8 (c : Int), .slice a n ca, .slice b m cb] w fun e w' => e = .returned (.bool true) ∧ Below w.heap.size w w' := by
  obtain ⟨hm, D, hD⟩ := hu
  obtain ⟨hm2, S, hS⟩ := hv
  by_cases h : n = m
  · subst h; exact table_same c _ _ n D S w hc hD hS hm
  · exact table_unlike c _ _ n m D S w hc hD hS hm hm2 h
end Go.Proofs.Ytdnjddnjaekgeab
