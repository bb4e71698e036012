import Derived.Test.YtdnjddnjaekgeaaNbd
import Derived.Test.YtdnjddnjaekgeaaNbg
import Derived.Test.YtdnjddnjaekgeaaEbo
import Derived.Deep.RegionHeld
namespace Go.Proofs.Ytdnjddnjaekgeaa
open Go.RowKit Gf2
set_option linter.unusedVariables false

theorem half_rb {w : World} {b : Nat} {F S : Nat → Nat} (h : w.rowIs b ht hC (fun i => .int .u8 (F i : Nat))) (e : ∀ i, i < 16 → F i = S i) (hS : ∀ i, i < 16 → S i < 256) : Rb w (.slice (some ⟨b, 0, none⟩) 16 hC) 16 S :=
  ⟨by decide, hS, _, _, rfl, by decide, by decide, fun _ => ⟨b, 0, rfl, h.lt, fun i hi => by
    rw [Nat.zero_add, h.cell (i := i) (Nat.lt_of_lt_of_le hi (by decide)), e i hi]⟩⟩
theorem split16 : ∀ x, x < 256 → x % 16 ^^^ 16 * (x / 16) = x := by decide +kernel
theorem and15 : ∀ x : Nat, x < 256 → bits BinOp.and IntKind.u8 (x : Int) 15 = ((x % 16 : Nat) : Int) := by decide +kernel
theorem halves_sum (c : Nat) {x : Nat} (h : x < 256) : fm 285 c (x % 16) ^^^ fm 285 c (16 * (x / 16)) = fm 285 c x := by rw [← fld8.fm_xor, split16 x h]

set_option maxHeartbeats 4000000 in
set_option maxRecDepth 100000 in
theorem halves_walk (c : Nat) (u : Value) (n : Nat) (S : Nat → Nat) (w : World) (hc : c < 256) (hu : Rb w u n S) (hm : n ≤ 140737488351232) :
    Calls Try.prog 3 #[.int .u8 (c : Int), u] w fun e w' => e = .returned (.bool true) ∧ Below w.heap.size w w' := by
  obtain ⟨x, cx, rfl⟩ : ∃ x cx, u = .slice x n cx := by obtain ⟨_, _, a, cap, h, _⟩ := hu; exact ⟨a, cap, h⟩
  have hn : n ≤ 140737488355328 := by omega
  have hnb : n ≤ big := hu.1
  have c1 := nhalves_any c w hc
  have hmk := make_u8 n hn
  go_enter Try.func3, Try.ntmps3
  go_wp2_with (first | (go_at_call 9; ((with_reducible refine (c1).mono ?_); (rintro e w1 ⟨b, d, rfl, hb, hd, hbd, ⟨F, hF, eF⟩, ⟨H, hH, eH⟩, hb1⟩; have lo1 := half_rb hF eF (fun _ _ => fm8_lt _ _); have hi1 := half_rb hH eH (fun _ _ => fm8_lt _ _); clear hF hH eF eH; have c2 := refHalves6_any c w1 hc))) | (go_at_call 10; ((with_reducible refine (c2).mono ?_); (rintro e w2 ⟨r, s, rfl, hR, hS⟩; have c3 := fixed6_any w2; have lo2 := lo1.below hR.1; have hi2 := hi1.below hR.1; have s0 := Ow.start w2 (fun _ => 0) (fun _ => 0) (fun _ _ => 0)))) | (go_at_call 11; ((with_reducible refine (c3).mono ?_); (rintro e w3 ⟨rfl, hb3⟩; have s1 := s0.still hb3; have q1 := ow_equal s1 16 (s1.src lo2) (s1.src hR.rb) (fun i hi => rfl)))) | (go_at_call 12; first | ((with_reducible refine (q1).mono ?_); (rintro e w4 ⟨rfl, s2⟩; have q2 := ow_equal s2 16 (s2.src hi2) (s2.src hS.rb) (fun i hi => rfl))) | ((with_reducible refine (q2).mono ?_); (rintro e w5 ⟨rfl, s3⟩; have s4 := s3.made n hn; have q4 := nnew_any (w5.alloc (.cells (madeCells #[.int .u8 0] n) 5)); have hu2 := (hu.below hb1).below hR.1))) | (go_at_call 13; ((with_reducible refine (q4).mono ?_); (rintro e w6 ⟨p, rfl, hk6, hb6⟩; have s5 := s4.still hb6; have q5 := copied6_any _ n S w6 (s5.src hu2) hn))) | (go_at_call 15; ((with_reducible refine (q5).mono ?_); (rintro e w7 ⟨rfl, r7, hb7, z7⟩; have s6 := s5.more hb7 (Nat.le_refl _) r7; have hk7 := nk_below hk6 hb7; have q6 := ow_mulg s6 hk7 0 c n (b := w5.heap.size) n n rfl (.inl (by simp)) (by decide) rfl hc (s6.farRow 1 0 n (b := w6.heap.size) rfl (by decide) (by decide) (by decide) (Nat.le_refl _))))) | (go_at_call 14; ((with_reducible refine (q6).mono ?_); (rintro e w8 ⟨rfl, s7, kp7⟩))))
  have rx := s7.src hu2
  have rl := s7.src lo2
  have rh := s7.src hi2
  have rp : Rw w8 w5.heap.size n (fun i => fm 285 c (S i)) := s7.row (t := 0) (by decide)
  have hb8 := s7.1
  have hb02 := hb1.trans (hR.1.mono hb1.size)
  have HE : Hid (Below w.heap.size w w8) := hb02.trans (hb8.mono hb02.size)
  obtain ⟨-, x2, xa, xc, e, -, -, x4⟩ := rx
  cases e
  obtain ⟨-, -, la, lc, e, -, -, l4⟩ := rl
  cases e
  obtain ⟨-, -, ga, gc, e, -, -, g4⟩ := rh
  cases e
  obtain ⟨lb, lo_, e, -, l5⟩ := l4 (by decide)
  cases e
  obtain ⟨gb, go_, e, -, g5⟩ := g4 (by decide)
  cases e
  clear q1 q2 q4 q5 q6 s0 s1 s2 s3 s4 s5 s6 s7 hmk c1 c2 c3 r7 hb7 z7 kp7 hk6 hk7 hb6 hb3 lo1 hi1 lo2 hi2 hR hS l4 g4 hb8 hb02 hu2
  go_loopw [48] (fun i wr => ∃ k m : Nat, k ≤ n ∧ i = .int .i64 k ∧ wr = w8.drewN m) (fun i _ => n - (intOf i).toNat)
  case atStart => exact ⟨0, 0, Nat.zero_le _, rfl, rfl⟩
  case round =>
    obtain ⟨k, m, hk, rfl, hw⟩ := hrel
    by_cases hlt : k < n
    · obtain ⟨bx, ox, rfl, -, hc'⟩ := x4 (by omega)
      obtain ⟨y, hy⟩ : ∃ y, y = S k := ⟨_, rfl⟩
      have ly : y < 256 := by rw [hy]; exact x2 k hlt
      have q1 : wr.cell? ⟨bx, ox + k, none⟩ = some (.int .u8 (y : Nat)) := by rw [hw, hy]; exact hc' k hlt
      have q2 : wr.cell? ⟨w5.heap.size, k, none⟩ = some (.int .u8 (fm 285 c y : Nat)) := by rw [hw, hy]; exact rp.2.2.cell hlt
      obtain ⟨a, ha⟩ : ∃ a, a = y % 16 := ⟨_, rfl⟩
      obtain ⟨h, hh⟩ : ∃ h, h = y / 16 := ⟨_, rfl⟩
      have q3 : wr.cell? ⟨b, a, none⟩ = some (.int .u8 (fm 285 c a : Nat)) := by
        have := l5 a (by omega)
        rw [Nat.zero_add] at this
        rw [hw]; exact this
      have q4 : wr.cell? ⟨d, h, none⟩ = some (.int .u8 (fm 285 c (16 * h) : Nat)) := by
        have := g5 h (by omega)
        rw [Nat.zero_add] at this
        rw [hw]; exact this
      have A15 := and15 y ly
      rw [← ha] at A15
      have D16 : ((y : Nat) : Int) / 16 = (h : Int) := by omega
      have ia : ((a : Nat) : Int) < 16 := by omega
      have ih : ((h : Nat) : Int) < 16 := by omega
      have X := u8_xor_nat (fm 285 c a) (fm 285 c (16 * h)) (fm8_lt _ _) (fm8_lt _ _)
      have E : fm 285 c a ^^^ fm 285 c (16 * h) = fm 285 c y := by rw [ha, hh]; exact halves_sum c ly
      rw [E] at X
      have HW : Hid (wr = w8.drewN m) := hw
      have ib : ((k : Nat) : Int) < (n : Int) := by omega
      have W1 := wrap_succ8 (j := k) (by omega)
      clear hc' hw x4 x2 hn hnb hm hy ha hh E rp l5 g5 ly
      go_wp2
      go_quiet (fail)
      go_wp2
      go_roundw
      case rel => exact ⟨k + 1, m + nq, hlt, by first | rfl | (rw [W1]; rfl), by rw [HW.out, World.drewN_drewN]⟩
      case measure => first | exact meas_lt8 hlt | (rw [W1]; exact meas_lt8 hlt)
    · have hk5 : k = n := by omega
      subst hk5
      subst hw
      clear x4 l5 g5
      go_wp2
      go_ret
      exact ⟨rfl, below_drewN HE.out m⟩
theorem halves_any {w : World} (c : Nat) (hc : c < 256) (a : Option Addr) (n ca : Nat) (hu : Rbm w a n ca) :
    Calls Try.prog 3 #[.int .u8 (c : Int), .slice a n ca] w fun e w' => e = .returned (.bool true) ∧ Below w.heap.size w w' := by
  obtain ⟨hm, S, hS⟩ := hu
  exact halves_walk c _ n S w hc hS hm
end Go.Proofs.Ytdnjddnjaekgeaa
