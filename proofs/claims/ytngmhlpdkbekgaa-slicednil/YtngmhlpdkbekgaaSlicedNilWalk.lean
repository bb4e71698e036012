import Derived.Test.YtngmhlpdkbekgaaSbc
import Derived.Test.YtngmhlpdkbekgaaEbo
namespace Go.Proofs.Ytngmhlpdkbekgaa
open Go.RowKit Gf2
set_option linter.unusedVariables false

set_option maxHeartbeats 4000000 in
set_option maxRecDepth 100000 in
theorem snil_walk (c nD nS : Nat) (xD xS : Option Addr) (cD cS : Nat) (D S : Nat → Nat) (w : World) (hD : Rb w (.slice xD nD cD) nD D) (hS : Rb w (.slice xS nS cS) nS S) (lD : nD ≤ 140737488351232) (lS : nS ≤ 140737488351232) :
    Calls Try.prog 7 #[.int .u8 (c : Int), .slice xD nD cD, .slice xS nS cS] w fun e w' => e = .returned (.bool true) ∧ Below w.heap.size w w' := by
  have c1 := snew_any w
  have HI : Hid (Rb w (.slice xD nD cD) nD D ∧ Rb w (.slice xS nS cS) nS S ∧ nD ≤ 140737488351232 ∧ nS ≤ 140737488351232) := ⟨hD, hS, lD, lS⟩
  have c5 := fun (u v : Value) W => smul_nil (c : Int) u v W
  have c6 := fun (u v : Value) W => sadd_nil (c : Int) u v W
  clear hD hS lD lS
  go_enter Try.func7, Try.ntmps7
  go_wp2_with (first
    | (go_at_call 11; (with_reducible refine c1.mono ?_); rintro e w1 ⟨p, rfl, hk, hb1⟩; have c2 := awake7_any w1 p _ _ hk; clear c1)
    | (go_at_call 10; (with_reducible refine c2.mono ?_); rintro e w2 ⟨rfl, hb2⟩; have b2 := hb1.trans (hb2.mono hb1.size); have c3 := roomy7_any xD nD cD D w2 (HI.out.1.below b2) HI.out.2.2.1; clear c2 hb2)
    | (go_at_call 12; first
      | ((with_reducible refine c3.mono ?_); rintro e w3 ⟨gD, CD, rfl, mD⟩; have b3 := b2.trans (mD.2.2.1.mono b2.size); have c4 := roomy7_any xS nS cS S w3 (HI.out.2.1.below b3) HI.out.2.2.2; clear c3)
      | ((with_reducible refine c4.mono ?_); rintro e w4 ⟨gS, CS, rfl, mS⟩; have b4 := b3.trans (mS.2.2.1.mono b3.size); have c7 := same7_true _ _ nD D w4 (mD.rb mS.2.2.1) (HI.out.1.below b4); have HM : Hid (Rmy w2 w3 gD CD nD D ∧ Rmy w3 w4 gS CS nS S ∧ Below w.heap.size w w4) := ⟨mD, mS, b4⟩; clear c4 mD mS b4 b3 b2 hb1 hk))
    | (go_at_call 13; (with_reducible refine (c5 _ _ _).mono ?_); rintro e w9 ⟨rfl, hw9⟩; have hw9 := hw9.symm; subst hw9)
    | (go_at_call 14; (with_reducible refine (c6 _ _ _).mono ?_); rintro e w9 ⟨rfl, hw9⟩; have hw9 := hw9.symm; subst hw9)
    | (go_at_call 15; first
      | ((with_reducible refine c7.mono ?_); rintro e w5 ⟨rfl, m5, hw5⟩; have b5 : Below w4.heap.size w4 w5 := (by rw [hw5]; exact below_self _ _); have c8 := same7_true _ _ nS S w5 (HM.out.2.1.rb b5) (HI.out.2.1.below (HM.out.2.2.trans (b5.mono HM.out.2.2.size))); clear c7 hw5)
      | ((with_reducible refine c8.mono ?_); rintro e w6 ⟨rfl, m6, hw6⟩; have b6 : Below w4.heap.size w4 w6 := (by rw [hw6]; exact below_drewN b5 _); have c10 := HM.out.1.edge (HM.out.2.1.2.2.1.trans (b6.mono HM.out.2.1.2.2.1.size)) HI.out.2.2.1; have c11 := HM.out.2.1.edge b6 HI.out.2.2.2; clear c8 hw6 b5))
    | (go_at_call 16; first
      | ((with_reducible refine c10.mono ?_); rintro e w7 ⟨rfl, hw7⟩; have hw7 := hw7.symm; subst hw7; clear c10)
      | ((with_reducible refine c11.mono ?_); rintro e w7 ⟨rfl, hw7⟩; have hw7 := hw7.symm; subst hw7; clear c11)))
  go_ret
  exact ⟨rfl, HM.out.2.2.trans (b6.mono HM.out.2.2.size)⟩
theorem snil_any {w : World} (c : Nat) (hc : c < 256) (a : Option Addr) (n ca : Nat) (hu : Rbm w a n ca) (a' : Option Addr) (n' ca' : Nat) (hu' : Rbm w a' n' ca') :
    Calls Try.prog 7 #[.int .u8 (c : Int), .slice a n ca, .slice a' n' ca'] w fun e w' => e = .returned (.bool true) ∧ Below w.heap.size w w' := by
  obtain ⟨hm, S, hS⟩ := hu
  obtain ⟨hm', S', hS'⟩ := hu'
  exact snil_walk c n n' a a' ca ca' S S' w hS hS' hm hm'
end Go.Proofs.Ytngmhlpdkbekgaa
