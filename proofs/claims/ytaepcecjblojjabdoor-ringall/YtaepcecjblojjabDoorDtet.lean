import Derived.Test.YtaepcecjblojjabDoorDprs
import Derived.Test.YtaepcecjblojjabDoorDpro
import Derived.Test.YtaepcecjblojjabDoorDall
import Derived.Deep.RegionHeld
namespace Go.Proofs.YtaepcecjblojjabDoor
open Go.RowKit Gf2

/-- both parsers say one thing. -/
theorem prg_ref (s : ByteArray) : prgV s = refV s := by
  unfold prgV refV
  split
  · rfl
  · split
    · rename_i h
      have : byt s = [] := List.eq_nil_of_length_eq_zero (by rw [byt_length, h])
      rw [this]; rfl
    · rename_i h
      exact parse_agree (fun e => h (by rw [← byt_length, e]; rfl))
theorem parV_small (s : ByteArray) : (parV (refV s)).2 = 0 ∨ (parV (refV s)).2 = 13 := by
  cases refV s with
  | none => exact .inr rfl
  | some v => exact .inl rfl

set_option maxHeartbeats 1000000 in
theorem texts_text (x y z : Nat) (s : ByteArray) (w : World) (hx : x < 18446744073709551616) :
    Calls Tryd.prog 21 #[.agg #[.int .i64 12, .int .u64 (x : Int), .int .u64 (y : Int), .int .u64 (z : Int), .string s]] w fun e w' => e = .returned (.bool true) ∧ Below w.heap.size w w' := by
  have c1 := fun w => text_nat x w hx
  have c2 := fun w => refText_nat x w hx
  generalize txt x = X at *
  go_enter Tryd.func21, Tryd.ntmps21
  go_wp2
  go_region_held (fun w' => w'.cell? ⟨w.heap.size, 1, none⟩ = some (.int .u64 (x : Int))) (go_keep) (first | (go_at_call 40; with_reducible refine (c1 _).mono ?_; rintro e w1 ⟨rfl, rfl⟩) | (go_at_call 41; with_reducible refine (c2 _).mono ?_; rintro e w1 ⟨rfl, hb1⟩; obtain ⟨hc1, hf1⟩ := bcell hb1))
  all_goals
    go_wp2
    go_ret
    exact ⟨ret_bool (by simp), (((Below.refl _ _).alloc (Nat.le_refl _) _).drew).trans (hb1.mono (by simp))⟩

set_option maxHeartbeats 1000000 in
theorem texts_parse (x y z : Nat) (s : ByteArray) (w : World) (ht : Tab w) (hs : s.size ≤ maxLen) :
    Calls Tryd.prog 21 #[.agg #[.int .i64 13, .int .u64 (x : Int), .int .u64 (y : Int), .int .u64 (z : Int), .string s]] w fun e w' => e = .returned (.bool true) ∧ Below w.heap.size w w' := by
  have c1 : ∀ w', Below w.heap.size w w' → _ := fun w' hb => parse_any s w' (ht.below hb)
  have c2 := fun w => refParse_any s w hs
  simp only [prg_ref] at c1
  have hsm := parV_small s
  generalize (parV (refV s)).1 = X at *
  generalize (parV (refV s)).2 = Y at *
  go_enter Tryd.func21, Tryd.ntmps21
  go_wp2_with (first | (go_at_call 42; with_reducible refine (c1 _ ((Below.refl _ _).alloc (Nat.le_refl _) _)).mono ?_; rintro e w1 ⟨rfl, hb1⟩; obtain ⟨hc1, hf1⟩ := bcell hb1) | (go_at_call 43; with_reducible refine (c2 _).mono ?_; rintro e w2 ⟨rfl, hb2⟩))
  go_ret
  have h1 := ((Below.refl w.heap.size w).alloc (Nat.le_refl _) _).trans (hb1.mono (by simp))
  exact ⟨ret_bool (by simp), h1.trans (hb2.mono h1.size)⟩

/-- what is asked of 'plays', where the table lies. -/
def PlaysT (lo hi : Int) : Prop := ∀ (k : Int) (x y z : Nat) (s : ByteArray) (w : World), lo ≤ k → k ≤ hi → x < 18446744073709551616 → y < 18446744073709551616 → z < 18446744073709551616 → s.size ≤ maxLen → Tab w →
  Calls Tryd.prog 10 #[.agg #[.int .i64 k, .int .u64 (x : Int), .int .u64 (y : Int), .int .u64 (z : Int), .string s]] w fun e w' => e = .returned (.bool true) ∧ Below w.heap.size w w'

set_option maxHeartbeats 2000000 in
theorem all_tab (lo hi : Int) (hp : PlaysT lo hi) (a : Option Addr) (len cap : Nat) (w : World) (h : IsOps w a len cap) (ht : Tab w) :
    Calls Tryd.prog 5 #[.slice a len cap, .int .i64 lo, .int .i64 hi] w fun e w' => e = .returned (.bool true) ∧ Below w.heap.size w w' := by
  obtain ⟨hml, h⟩ := h
  unfold maxLen at hml
  unfold PlaysT at hp
  by_cases h0 : len = 0
  · subst h0
    go_enter Tryd.func5, Tryd.ntmps5
    go_wp2
    go_loopw [11] (fun x wr => x = .int .i64 0 ∧ wr = w) (fun _ _ => 0)
    case atStart => exact ⟨rfl, rfl⟩
    case round =>
      obtain ⟨rfl, rfl⟩ := hrel
      go_wp2
      go_ret
      exact ⟨rfl, Below.refl _ _⟩
  · rcases h with h | ⟨b, off, rfl, hlc, hcm, hbs, hops⟩
    · exact absurd h h0
    · go_enter Tryd.func5, Tryd.ntmps5
      go_wp2
      go_loopw [11] (fun x wr => ∃ i : Nat, i ≤ len ∧ x = .int .i64 i ∧ Below w.heap.size w wr) (fun x _ => len - (intOf x).toNat)
      case atStart => exact ⟨0, Nat.zero_le _, rfl, Below.refl _ _⟩
      case round =>
        obtain ⟨i, hi2, rfl, hb⟩ := hrel
        by_cases hlt : i < len
        · obtain ⟨k, x, y, z, s, z0, z1, z2, z3, z4, bx, by', bz, bs⟩ := hops i hlt
          have y0 := (hb.cell (p := ⟨b, off + i * 5, none⟩) hbs).trans z0
          have y1 := (hb.cell (p := ⟨b, off + i * 5 + 1, none⟩) hbs).trans z1
          have y2 := (hb.cell (p := ⟨b, off + i * 5 + 2, none⟩) hbs).trans z2
          have y3 := (hb.cell (p := ⟨b, off + i * 5 + 3, none⟩) hbs).trans z3
          have y4 := (hb.cell (p := ⟨b, off + i * 5 + 4, none⟩) hbs).trans z4
          clear z0 z1 z2 z3 z4
          have hil : ((i : Nat) : Int) < (len : Int) := by omega
          by_cases h1 : lo ≤ k
          · by_cases h2 : k ≤ hi
            · have D1 : decide (lo ≤ k) = true := by simpa using h1
              have D2 : decide (k ≤ hi) = true := by simpa using h2
              have c1 := fun (w' : World) (hb' : Below w.heap.size w w') => hp k x y z s w' h1 h2 bx by' bz bs (ht.below hb')
              clear hp hops
              go_wp2_with (go_at_call 10; with_reducible refine (c1 _ (hb.alloc hb.size _)).mono ?_; rintro e w1 ⟨rfl, hb1⟩)
              go_roundw
              case rel => exact ⟨i + 1, by omega, by go_num, (hb.alloc hb.size _).trans (hb1.mono (by have := hb.size; simp; omega))⟩
              case measure => simp [intOf]; omega
            · have D1 : decide (lo ≤ k) = true := by simpa using h1
              have D2 : decide (k ≤ hi) = false := by simpa using h2
              clear hp hops
              go_wp2
              go_roundw
              case rel => exact ⟨i + 1, by omega, by go_num, hb.alloc hb.size _⟩
              case measure => simp [intOf]; omega
          · have D1 : decide (lo ≤ k) = false := by simpa using h1
            clear hp hops
            go_wp2
            go_roundw
            case rel => exact ⟨i + 1, by omega, by go_num, hb.alloc hb.size _⟩
            case measure => simp [intOf]; omega
        · go_wp2
          go_ret
          exact ⟨rfl, hb⟩

theorem texts_any (k : Int) (x y z : Nat) (s : ByteArray) (w : World) (hx : x < 18446744073709551616) (hs : s.size ≤ maxLen) (ht : Tab w) (hk : k = 12 ∨ k = 13) :
    Calls Tryd.prog 21 #[.agg #[.int .i64 k, .int .u64 (x : Int), .int .u64 (y : Int), .int .u64 (z : Int), .string s]] w fun e w' => e = .returned (.bool true) ∧ Below w.heap.size w w' := by
  rcases hk with rfl | rfl
  · exact texts_text x y z s w hx
  · exact texts_parse x y z s w ht hs

set_option maxHeartbeats 1000000 in
theorem plays_texts : PlaysT 12 13 := by
  intro k x y z s w h1 h2 hx hy hz hs ht
  have hk : k = 12 ∨ k = 13 := by omega
  have c1 := fun (w' : World) (hb : Below w.heap.size w w') => texts_any k x y z s w' hx hs (ht.below hb) hk
  rcases hk with rfl | rfl
  all_goals
    go_enter Tryd.func10, Tryd.ntmps10
    go_wp2_with (go_at_call 21; with_reducible refine (c1 _ ((Below.refl _ _).alloc (Nat.le_refl _) _)).mono ?_; rintro e w1 ⟨rfl, hb1⟩)
    go_ret
    exact ⟨rfl, ((Below.refl _ _).alloc (Nat.le_refl _) _).trans (hb1.mono (by simp))⟩

theorem txt_six : txt 6 = ⟨#[120, 94, 50, 43, 120]⟩ := by decide +kernel

end Go.Proofs.YtaepcecjblojjabDoor
