import Derived.Test.YtnbpbdhncnagdabWgra
import Derived.Test.YtnbpbdhncnagdabWgrb
namespace Go.Proofs.Ytnbpbdhncnagdab
open Go.RowKit Gf2

set_option maxHeartbeats 8000000 in
set_option maxRecDepth 100000 in
theorem gf8Rows_any (a : Option Addr) (len cap : Nat) (w : World) (h : IsBytesG w a len cap) :
    Calls Try.prog 4 #[.slice a len cap] w fun e w' => e = .returned (.bool true) ∧ Below w.heap.size w w' := by
  obtain ⟨hml, h⟩ := h
  unfold maxLen at hml
  have c1 := fun w => awake2_any w
  by_cases h0 : len = 0
  · subst h0
    clear h
    go_enter Try.func4, Try.ntmps4
    go_wp2_with (first | (go_at_call 5; first | ((with_reducible refine (new_any wa).mono ?_); (rintro e wb ⟨rfl, hsb, hu, hbb⟩; have ht2 : Tab8 wb _ := Tab8.of_heap ht (hbb.block _ (Tab8.lt ht)); have hu2 : Tab8 wb _ := hu)) | ((with_reducible refine (new_any _).mono ?_); (rintro e wa ⟨rfl, hsa, ht, hba⟩))) | (go_at_call 6; ((with_reducible refine (c1 _).mono ?_); (rintro e w' ⟨rfl, hw'⟩; have hw' := hw'.symm; subst hw'))) | (go_at_call 15; ((with_reducible refine (trow_two _ _ ht2).mono ?_); (rintro e wc ⟨rfl, hrc, hbc, hsc⟩))) | (go_at_call 18; ((with_reducible refine (refRow_two _).mono ?_); (rintro e wd ⟨rfl, hrd, hbd, hsd⟩; have R : Hid _ := rows_pair hrc hsc hrd hbd (x := w.heap.size + 1 + 1) (y := w.heap.size + 1 + 1 + 1) (by simp [hsa, hsb]) (by simp [hsa, hsb, hsc]); have PF : Hid _ := fun m => pre_facts m hsa hba hsb hbb ht2 hu2 hbc hbd))) | (go_at_call 17; ((with_reducible refine (same_rows (w.heap.size + 1 + 1) (w.heap.size + 1 + 1 + 1) (fun x => fm 285 2 x) _ R.out.1 R.out.2).mono ?_); (rintro e we ⟨rfl, m, hwe⟩; subst hwe))))
    clear hrc hbc hsc hrd hbd hsd hsa hba hsb hbb ht2 hu2 hu ht R c1
    obtain ⟨w1, hw1⟩ : ∃ w1 : World, w1 = wd.drewN m := ⟨_, rfl⟩
    have PF := PF.out m
    rw [← hw1] at PF ⊢
    clear hw1
    obtain ⟨-, -, pb, ps⟩ := PF
    have ca := apart_none w1
    go_loopw [5, 6] (fun av iv wr => av = .slice none 0 0 ∧ iv = .int .i64 0 ∧ wr = w1) (fun _ _ _ => 0)
    case atStart => exact ⟨rfl, rfl, rfl⟩
    case round =>
      obtain ⟨rfl, rfl, hwr⟩ := hrel
      subst hwr
      go_wp2
      go_loopw [7] (fun iv wq => iv = .int .i64 0 ∧ wq = wr) (fun _ _ => 0)
      case atStart => exact ⟨rfl, rfl⟩
      case round =>
        obtain ⟨rfl, hwr⟩ := hrel
        subst hwr
        go_wp2_with (go_at_call 19; ((with_reducible refine (ca).mono ?_); (rintro e wC ⟨rfl, hbC⟩)))
        go_loopw [8] (fun iv wq => iv = .int .i64 0 ∧ wq = wC) (fun _ _ => 0)
        case atStart => exact ⟨rfl, rfl⟩
        case round =>
          obtain ⟨rfl, hwr⟩ := hrel
          subst hwr
          go_wp2
          go_ret
          exact ⟨rfl, pb.trans (hbC.mono (by omega))⟩
  · rcases h with h1 | ⟨b, off, c, rfl, hlc, hcm, hbs, hc⟩
    · exact absurd h1 h0
    by_cases h40 : len ≤ 40
    · exact rows_few b off len cap len c w h40 rfl hml hlc hbs (by omega) h40 hc
    · exact rows_many b off len cap 40 c w (by omega) rfl hml hlc hbs (by decide) (by decide) (fun i hi => hc i (by omega))
end Go.Proofs.Ytnbpbdhncnagdab
