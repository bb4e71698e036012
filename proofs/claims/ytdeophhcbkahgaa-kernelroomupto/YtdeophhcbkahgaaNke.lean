import Derived.Test.YtdeophhcbkahgaaNkd
namespace Go.Proofs.Ytdeophhcbkahgaa
open Go.RowKit Gf2
set_option linter.unusedVariables false

theorem half_split (c s : Nat) (hs : s < 256) : fm 285 c (s % 16 * 1) ^^^ fm 285 c (s / 16 * 16) = fm 285 c s := by
  have key : ∀ s, s < 256 → (s % 16 * 1) ^^^ (s / 16 * 16) = s := by decide +kernel
  rw [← fld8.fm_xor, key s hs]
theorem half_and (s : Nat) (hs : s < 256) : bits .and .u8 (s : Int) 15 = ((s % 16 : Nat) : Int) := by
  have h := u8_and_nat s 15 hs (by decide)
  have e : s &&& 15 = s % 16 := Nat.and_two_pow_sub_one_eq_mod s 4
  rw [e] at h
  exact h
/-- what the two lists at b and b + 1 of a world hold. -/
def Two (c b : Nat) (w : World) : Prop := w.heap[b]? = some (.cells (halfRow c 1 16) 132 (0, 0)) ∧ w.heap[b + 1]? = some (.cells (halfRow c 16 16) 132 (0, 0))
theorem Two.lo {c b : Nat} {w : World} (h : Two c b w) {j : Nat} (hj : j < 16) : w.cell? ⟨b, j, none⟩ = some (.int .u8 (fm 285 c (j * 1) : Nat)) := by
  rw [cell_of_row w b j _ _ _ h.1, halfRow_get _ _ _ _ hj, if_pos hj]
theorem Two.up {c b : Nat} {w : World} (h : Two c b w) {j : Nat} (hj : j < 16) : w.cell? ⟨b + 1, j, none⟩ = some (.int .u8 (fm 285 c (j * 16) : Nat)) := by
  rw [cell_of_row w (b + 1) j _ _ _ h.2, halfRow_get _ _ _ _ hj, if_pos hj]
theorem Two.keep {c b g : Nat} {w w' : World} (h : Two c b w) (hk : Kp g w w') (hg : g < b) : Two c b w' := by
  have l1 := (Array.getElem?_eq_some_iff.1 h.1).1
  have l2 := (Array.getElem?_eq_some_iff.1 h.2).1
  exact ⟨(hk.2 b l1 (by omega)).trans h.1, (hk.2 (b + 1) l2 (by omega)).trans h.2⟩
theorem Two.drew {c b : Nat} {w : World} (h : Two c b w) : Two c b w.drew := h
/-- the world behind halves and the two stores. -/
theorem two_laid {c g N : Nat} {F : Nat → Nat} {w w1 : World} {A B : Array Value} (hb : Below w.heap.size w w1) (hR : Rw w g N F) :
    Two c w1.heap.size (((((w1.alloc (.cells A 132)).alloc (.cells B 132)).setRow w1.heap.size (halfRow c 1 16))).setRow (w1.heap.size + 1) (halfRow c 16 16)) ∧
    Kp g w (((((w1.alloc (.cells A 132)).alloc (.cells B 132)).setRow w1.heap.size (halfRow c 1 16))).setRow (w1.heap.size + 1) (halfRow c 16 16)) ∧
    Rw (((((w1.alloc (.cells A 132)).alloc (.cells B 132)).setRow w1.heap.size (halfRow c 1 16))).setRow (w1.heap.size + 1) (halfRow c 16 16)) g N F := by
  have h1 := heap_alloc2_old w1 (.cells A 132) (.cells B 132)
  have h2 := heap_alloc2_new w1 (.cells A 132) (.cells B 132)
  have b : Below w.heap.size w (((((w1.alloc (.cells A 132)).alloc (.cells B 132)).setRow w1.heap.size (halfRow c 1 16))).setRow (w1.heap.size + 1) (halfRow c 16 16)) :=
    below_setRow (below_setRow ((hb.alloc hb.size _).alloc (by have := hb.size; simp; omega) _) hb.size _) (by have := hb.size; omega) _
  refine ⟨⟨?_, ?_⟩, kp_below b g, rw_below hR b⟩
  · rw [setRow_other _ _ _ _ (Nat.succ_ne_self _).symm]
    exact setRow_heap _ _ _ _ _ _ h1
  · exact setRow_heap _ _ _ _ _ _ ((setRow_other _ _ _ _ (Nat.succ_ne_self _)).trans h2)

set_option maxHeartbeats 4000000 in
set_option maxRecDepth 100000 in
theorem nmul_gen (p : Addr) (lo hi c n g o N : Nat) (F : Nat → Nat) (rd : (Nat → Nat) → Nat → Nat) (a x : Option Addr) (ca cx : Nat) (w : World) (hk : Nk w p lo hi) (hc : c < 256) (hn : n ≤ big) (hg : g < lo ∨ hi ≤ g)
    (hR : Rw w g N F) (hd : 0 < n → a = some ⟨g, o, none⟩ ∧ o + n ≤ N) (hx : 0 < n → Rdk w g N n x rd) :
    Calls Try.prog 77 #[.pointer (some p), .int .u8 (c : Int), .slice a n ca, .slice x n cx] w fun e w' => e = .returned (.int .i64 0) ∧ Kp g w w' ∧ Rw w' g N (goes (fun _ s => fm 285 c s) o rd F n) := by
  have hgl := hR.lt
  have u1 := fun W => unfit_ok p n a x ca cx W
  have u2 := nhalf_nat c w hc
  have iL : (Try.prog.info? 132).map (·.size) = some (halfRow c 1 16).size := by rw [halfRow_size]; exact info_half
  have iH : (Try.prog.info? 132).map (·.size) = some (halfRow c 16 16).size := by rw [halfRow_size]; exact info_half
  have aL := halfRow_all c 1 16
  have aH := halfRow_all c 16 16
  have sL : Hid (16 = (halfRow c 1 16).size) := (halfRow_size _ _ _).symm
  have sH : Hid (16 = (halfRow c 16 16).size) := (halfRow_size _ _ _).symm
  have TL : Hid (∀ w1 A B, Below w.heap.size w w1 → Two c w1.heap.size (((((w1.alloc (.cells A 132)).alloc (.cells B 132)).setRow w1.heap.size (halfRow c 1 16))).setRow (w1.heap.size + 1) (halfRow c 16 16)) ∧
    Kp g w (((((w1.alloc (.cells A 132)).alloc (.cells B 132)).setRow w1.heap.size (halfRow c 1 16))).setRow (w1.heap.size + 1) (halfRow c 16 16)) ∧
    Rw (((((w1.alloc (.cells A 132)).alloc (.cells B 132)).setRow w1.heap.size (halfRow c 1 16))).setRow (w1.heap.size + 1) (halfRow c 16 16)) g N F) := fun w1 A B hb => two_laid hb hR
  by_cases h0 : 0 < n
  · obtain ⟨rfl, hoN⟩ := hd h0
    obtain ⟨h, q, rfl, hrd⟩ := hx h0
    have c1 : Hid (∀ w' G, Kp g w w' → Rw w' g N G → ∀ i, i < n → rd G i < 256 ∧ w'.cell? ⟨h, q + i, none⟩ = some (.int .u8 (rd G i : Nat))) := hrd
    obtain ⟨L, hL⟩ : ∃ L, L = halfRow c 1 16 := ⟨_, rfl⟩
    obtain ⟨H, hH⟩ : ∃ H, H = halfRow c 16 16 := ⟨_, rfl⟩
    rw [← hL, ← hH] at u2 TL
    rw [← hL] at iL aL sL
    rw [← hH] at iH aH sH
    have HN : Hid (n ≤ big) := hn
    clear hrd hn hc hL hH hk hg
    go_enter Try.func77, Try.ntmps77
    go_wp2_with (first | (go_at_call 79; (with_reducible refine (u1 _).mono ?_); rintro e w9 ⟨rfl, hw9⟩; have hw9 := hw9.symm; subst hw9) | (go_at_call 80; (with_reducible refine u2.mono ?_); rintro e w1 ⟨rfl, hb1⟩) | (refine wpList_store_row rfl 132 _ _ rfl w1.heap.size L rfl rfl 132 _ (heap_alloc2_old _ _ _) iL sL.out aL ?_) | (refine wpList_store_row rfl 132 _ _ rfl (w1.heap.size + 1) H rfl rfl 132 _ ((setRow_other _ _ _ _ (Nat.succ_ne_self _)).trans (heap_alloc2_new _ _ _)) iH sH.out aH ?_))
    go_loopw [28] (fun i wr => ∃ k : Nat, k ≤ n ∧ i = .int .i64 k ∧ Kp g w wr ∧ Two c w1.heap.size wr ∧ Rw wr g N (goes (fun _ s => fm 285 c s) o rd F k)) (fun i _ => n - (intOf i).toNat)
    case atStart =>
      obtain ⟨t1, t2, t3⟩ := TL.out w1 _ _ hb1
      exact ⟨0, Nat.zero_le _, rfl, t2, t1, t3⟩
    case round =>
      obtain ⟨k, hk, rfl, ho, ht, hr⟩ := hrel
      by_cases hlt : k < n
      · obtain ⟨G, hG⟩ : ∃ G, G = goes (fun _ s => fm 285 c s) o rd F k := ⟨_, rfl⟩
        rw [← hG] at hr
        obtain ⟨ls, qs⟩ := c1.out wr G ho hr k hlt
        obtain ⟨s, hs⟩ : ∃ s, s = rd G k := ⟨_, rfl⟩
        rw [← hs] at ls qs
        have ql := ht.lo (j := s % 16) (by omega)
        have qh := ht.up (j := s / 16) (by omega)
        have X := u8_xor_nat (fm 285 c (s % 16 * 1)) (fm 285 c (s / 16 * 16)) (fm8_lt _ _) (fm8_lt _ _)
        rw [half_split c s ls] at X
        obtain ⟨U, hU⟩ : ∃ U, U = fm 285 c (s % 16 * 1) := ⟨_, rfl⟩
        obtain ⟨V, hV⟩ : ∃ V, V = fm 285 c (s / 16 * 16) := ⟨_, rfl⟩
        rw [← hU] at ql X
        rw [← hV] at qh X
        have A1 := half_and s ls
        have A2 : (s : Int) / 16 = ((s / 16 : Nat) : Int) := by omega
        have q1 := hr.2.2.cell (i := o + k) (by omega)
        have q2 := hr.2.2.frozen (o + k)
        have lf : fm 285 c s < 256 := fm8_lt _ _
        have new : Rw (wr.setCell ⟨g, o + k, none⟩ (.int .u8 (fm 285 c s : Nat))) g N (goes (fun _ s => fm 285 c s) o rd F (k + 1)) := by
          refine ⟨hr.1, fun i hi => ?_, (hr.2.2.set (o + k) _).congr (fun i hi => ?_)⟩
          · unfold goes
            rw [← hG, ← hs]
            split
            · exact lf
            · exact hr.2.1 i hi
          · unfold goes
            rw [← hG, ← hs]
            by_cases e : i = o + k
            · rw [if_pos e, if_pos e]
            · rw [if_neg e, if_neg e]
        have k1 : Kp g wr (wr.setCell ⟨g, o + k, none⟩ (.int .u8 (fm 285 c s : Nat))) := (Kp.refl g wr).setCell _ _
        have HP : Hid (Kp g w (wr.setCell ⟨g, o + k, none⟩ (.int .u8 (fm 285 c s : Nat))) ∧ Two c w1.heap.size (wr.setCell ⟨g, o + k, none⟩ (.int .u8 (fm 285 c s : Nat))) ∧ Rw (wr.setCell ⟨g, o + k, none⟩ (.int .u8 (fm 285 c s : Nat))) g N (goes (fun _ s => fm 285 c s) o rd F (k + 1))) := ⟨ho.setCell _ _, ht.keep k1 (Nat.lt_of_lt_of_le hgl hb1.size), new⟩
        have ib : ((k : Nat) : Int) < (n : Int) := by omega
        have i1 : ((s % 16 : Nat) : Int) < 16 := by omega
        have i2 : ((s / 16 : Nat) : Int) < 16 := by omega
        have W1 := wrap_succ8 (j := k) (Nat.lt_of_lt_of_le hlt HN.out)
        obtain ⟨T, hT⟩ : ∃ T, T = fm 285 c s := ⟨_, rfl⟩
        rw [← hT] at X HP
        obtain ⟨sl, hsl⟩ : ∃ sl, sl = s % 16 := ⟨_, rfl⟩
        obtain ⟨sh, hsh⟩ : ∃ sh, sh = s / 16 := ⟨_, rfl⟩
        rw [← hsl] at A1 i1 ql
        rw [← hsh] at A2 i2 qh
        clear new hr ho ht hG hs hR hd hx lf k1 hU hV hT TL hsl hsh
        go_wp2
        refine region_tail8 11 (by kernel_rfl) (by kernel_rfl) ?_
        simp only [List.take_succ_cons, List.take_zero, List.drop_succ_cons, List.drop_zero]
        repeat still_step
        refine wpStill_nil ?_
        go_wp2
        go_roundw
        case rel => exact ⟨k + 1, hlt, by first | rfl | (rw [W1]; rfl), HP.out.1.drew, HP.out.2.1.drew, HP.out.2.2.1, HP.out.2.2.2.1, HP.out.2.2.2.2.drew⟩
        case measure => first | exact meas_lt8 hlt | (rw [W1]; exact meas_lt8 hlt)
      · have hkn : k = n := by omega
        subst hkn
        clear hx hd TL
        go_wp2
        go_ret
        exact ⟨rfl, ho, hr⟩
  · have hn0 : n = 0 := by omega
    subst hn0
    obtain ⟨L, hL⟩ : ∃ L, L = halfRow c 1 16 := ⟨_, rfl⟩
    obtain ⟨H, hH⟩ : ∃ H, H = halfRow c 16 16 := ⟨_, rfl⟩
    rw [← hL, ← hH] at u2 TL
    rw [← hL] at iL aL sL
    rw [← hH] at iH aH sH
    clear hn hc hL hH hk hg hd hx
    go_enter Try.func77, Try.ntmps77
    go_wp2_with (first | (go_at_call 79; (with_reducible refine (u1 _).mono ?_); rintro e w9 ⟨rfl, hw9⟩; have hw9 := hw9.symm; subst hw9) | (go_at_call 80; (with_reducible refine u2.mono ?_); rintro e w1 ⟨rfl, hb1⟩) | (refine wpList_store_row rfl 132 _ _ rfl w1.heap.size L rfl rfl 132 _ (heap_alloc2_old _ _ _) iL sL.out aL ?_) | (refine wpList_store_row rfl 132 _ _ rfl (w1.heap.size + 1) H rfl rfl 132 _ ((setRow_other _ _ _ _ (Nat.succ_ne_self _)).trans (heap_alloc2_new _ _ _)) iH sH.out aH ?_))
    refine wp_loop_rounds 1 ?_
    rw [rounds_succ]
    go_wp2
    go_ret
    obtain ⟨t1, t2, t3⟩ := TL.out w1 _ _ hb1
    exact ⟨rfl, t2, t3⟩
end Go.Proofs.Ytdeophhcbkahgaa
