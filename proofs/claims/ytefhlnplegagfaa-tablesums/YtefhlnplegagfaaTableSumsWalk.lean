import Derived.Test.YtefhlnplegagfaaEbn
import Derived.Test.YtefhlnplegagfaaEbo
namespace Go.Proofs.Ytefhlnplegagfaa
open Go.RowKit Gf2
set_option linter.unusedVariables false

theorem xor_back (a b : Nat) : a ^^^ b ^^^ b = a := by rw [Nat.xor_assoc, Nat.xor_self, Nat.xor_zero]
theorem xor_fm (c d x : Nat) : fm 285 c x ^^^ fm 285 d x = fm 285 (c ^^^ d) x := (fld8.xor_fm _ _ _).symm

set_option maxHeartbeats 4000000 in
set_option maxRecDepth 100000 in
theorem sums_walk (c d : Nat) (u v : Value) (n1 n2 : Nat) (X Y : Nat → Nat) (w : World) (hc : c < 256) (hd : d < 256) (hu : Rb w u n1 X) (hv : Rb w v n2 Y) (hm : n1 ≤ 140737488351232) :
    Calls Try.prog 5 #[.int .u8 (c : Int), .int .u8 (d : Int), u, v] w fun e w' => e = .returned (.bool true) ∧ Below w.heap.size w w' := by
  obtain ⟨n, hn⟩ : ∃ n, n = min n1 n2 := ⟨_, rfl⟩
  have n1' : n ≤ n1 := by rw [hn]; exact Nat.min_le_left _ _
  have n2' : n ≤ n2 := by rw [hn]; exact Nat.min_le_right _ _
  have hnb : n ≤ 140737488355328 := by omega
  have eM : min (n1 : Int) (n2 : Int) = (n : Int) := by rw [hn]; simp only [Int.min_def, Nat.min_def]; split <;> split <;> omega
  obtain ⟨x, cx, rfl⟩ : ∃ x cx, u = .slice x n1 cx := by obtain ⟨_, _, a, cap, h, _⟩ := hu; exact ⟨a, cap, h⟩
  obtain ⟨y, cy, rfl⟩ : ∃ y cy, v = .slice y n2 cy := by obtain ⟨_, _, a, cap, h, _⟩ := hv; exact ⟨a, cap, h⟩
  have cA := awake5_any w
  have cS := fun W (h : Below w.heap.size w W) => sum5_any (.slice x n1 cx) (.slice y n2 cy) n1 n2 n X Y W (hu.below h) (hv.below h) hn hnb
  have HN : Hid (n = min n1 n2) := hn
  clear hn
  go_enter Try.func5, Try.ntmps5
  have X1 := u8_xor_nat c d hc hd
  have hcd : c ^^^ d < 256 := Nat.xor_lt_two_pow (n := 8) hc hd
  have hcx : n ≤ cx := by obtain ⟨_, _, a, cap, h, h5, _⟩ := hu; cases h; omega
  have hcy : n ≤ cy := by obtain ⟨_, _, a, cap, h, h5, _⟩ := hv; cases h; omega
  have hn2 : n ≤ big := by unfold big; omega
  go_wp2_with (first | (go_at_call 10; ((with_reducible refine (cA).mono ?_); (rintro e w1 ⟨p, hi, rfl, hk1, hb1⟩))) | (go_at_call 11; ((with_reducible refine (cS _ hb1).mono ?_); (rintro e w2 ⟨rfl, hr2, hb2, hs2⟩; have hk2 := ker_below hk1 hb2; have hb02 := hb1.trans (hb2.mono hb1.size); have s0 := St.start w2 (fun _ => 0) (fun _ _ => 0); have rx := (hu.below hb02).cut n1' hcx; have ry := (hv.below hb02).cut n2' hcy; have rxy := hr2.rb0; clear hs2))) | (go_at_call 12; first | ((with_reducible refine (st_zeros s0 n (plus0 _) hnb).mono ?_); (rintro e w3 ⟨rfl, s1⟩)) | ((with_reducible refine (st_zeros s1 n rfl hnb).mono ?_); (rintro e w4 ⟨rfl, s2⟩)) | ((with_reducible refine (st_zeros s2 n rfl hnb).mono ?_); (rintro e w5 ⟨rfl, s3⟩))) | (go_at_call 13; first | ((with_reducible refine (st_mul_far s3 hk2 0 c n n n rxy (plus0 _) (by decide) rfl hc).mono ?_); (rintro e w6 ⟨rfl, s4⟩)) | ((with_reducible refine (st_mul_far s4 hk2 1 c n n cx rx rfl (by decide) rfl hc).mono ?_); (rintro e w7 ⟨rfl, s5⟩)) | ((with_reducible refine (st_mul_far s7 hk2 0 c n n cx rx (plus0 _) (by decide) rfl hc).mono ?_); (rintro e w10 ⟨rfl, s8⟩)) | ((with_reducible refine (st_mul_far s9 hk2 2 (c ^^^ d) n n cx rx rfl (by decide) rfl hcd).mono ?_); (rintro e w12 ⟨rfl, s10⟩; have q10 := St.he s10 0 2 n (fun i hi => xor_fm _ _ _)))) | (go_at_call 14; first | ((with_reducible refine (st_add_far s5 hk2 1 c n n cy ry rfl (by decide) rfl hc).mono ?_); (rintro e w8 ⟨rfl, s6⟩; have q6 := St.he s6 0 1 n (fun i hi => fld8.fm_xor _ _ _))) | ((with_reducible refine (st_add_far s8 hk2 0 d n n cx rx (plus0 _) (by decide) rfl hd).mono ?_); (rintro e w11 ⟨rfl, s9⟩))) | (go_at_call 15; first | ((with_reducible refine (st_equal s6 0 1 n n n (plus0 _) rfl (by decide) (by decide) rfl rfl (Nat.le_refl _) hn2 (Nat.le_refl _) hn2 q6).mono ?_); (rintro e w9 ⟨rfl, s7⟩; clear q6)) | ((with_reducible refine (st_equal s10 0 2 n n n (plus0 _) rfl (by decide) (by decide) rfl rfl (Nat.le_refl _) hn2 (Nat.le_refl _) hn2 q10).mono ?_); (rintro e w13 ⟨rfl, s11⟩; clear q10))))
  obtain ⟨w14, hrun, s12⟩ := st_copy s11 0 n n2 n (hv.below hb02) (plus0 _) (by decide) rfl n2'
  rw [hrun]
  simp only [Result.andThen, goInt]
  go_wp2_with (first | (go_at_call 14; first | ((with_reducible refine (st_add_far s12 hk2 0 c n n cx rx (plus0 _) (by decide) rfl hc).mono ?_); (rintro e w15 ⟨rfl, s13⟩)) | ((with_reducible refine (st_add_far s13 hk2 0 c n n cx rx (plus0 _) (by decide) rfl hc).mono ?_); (rintro e w16 ⟨rfl, s14⟩; have q14 := St.hf s14 0 n Y (fun i hi => xor_back _ _)))) | (go_at_call 15; ((with_reducible refine (st_equal_far s14 0 n n ry (plus0 _) (by decide) rfl (Nat.le_refl _) hn2 q14).mono ?_); (rintro e w17 ⟨rfl, s15⟩))))
  go_ret
  exact ⟨rfl, hb02.trans (s15.1.mono hb02.size)⟩
theorem sums_any {w : World} (c : Nat) (hc : c < 256) (d : Nat) (hd : d < 256) (a : Option Addr) (n1 ca : Nat) (hu : Rbm w a n1 ca) (b : Option Addr) (n2 cb : Nat) (hv : Rbm w b n2 cb) :
    Calls Try.prog 5 #[.int .u8 (c : Int), .int .u8 (d : Int), .slice a n1 ca, .slice b n2 cb] w fun e w' => e = .returned (.bool true) ∧ Below w.heap.size w w' := by
  obtain ⟨hm, X, hX⟩ := hu
  obtain ⟨-, Y, hY⟩ := hv
  exact sums_walk c d _ _ n1 n2 X Y w hc hd hX hY hm
end Go.Proofs.Ytefhlnplegagfaa
