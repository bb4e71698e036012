import Derived.Test.YthofhphlfgmklaaGreatMzbo
import Derived.Test.YthofhphlfgmklaaGreatMzbj
namespace Go.Proofs.YthofhphlfgmklaaGreat
open Go.RowKit Gf2
set_option linter.unusedVariables false

-- layer 19: MendMemory: Shards over both lists
/-- behind both Shards: two lists of whole shards, and old. -/
structure Mo19 (w W : World) (bx go ga gb n T : Nat) (f k m : Int) (Ra Ca : Nat → Nat) (Va : Nat → Nat → Nat) (Rb Cb : Nat → Nat) (Vb : Nat → Nat → Nat) : Prop where
  z0 : W.cell? ⟨bx, 0, none⟩ = some (.int .i64 f)
  z1 : W.cell? ⟨bx, 1, none⟩ = some (.int .i64 k)
  z2 : W.cell? ⟨bx, 2, none⟩ = some (.int .i64 m)
  old : Rw W go T (fun _ => 99)
  la : Lw19 W ga n Ra (fun _ => T) Ca Va
  lb : Lw19 W gb n Rb (fun _ => T) Cb Vb
  ord : w.heap.size ≤ go ∧ go < ga ∧ ga < gb
  ra : ∀ x, x < n → ga < Ra x ∧ Ra x ≠ gb
  rb : ∀ x, x < n → gb < Rb x
  dis : ∀ x y, x < n → y < n → Ra x ≠ Rb y
  bel : Below w.heap.size w W
theorem Mo19.below {w W W' : World} {bx go ga gb n T : Nat} {f k m : Int} {Ra Ca Rb Cb : Nat → Nat} {Va Vb : Nat → Nat → Nat} (h : Mo19 w W bx go ga gb n T f k m Ra Ca Va Rb Cb Vb) (hb : Below W.heap.size W W') : Mo19 w W' bx go ga gb n T f k m Ra Ca Va Rb Cb Vb :=
  ⟨(hb.cell (cell_lt5 h.z0)).trans h.z0, (hb.cell (cell_lt5 h.z1)).trans h.z1, (hb.cell (cell_lt5 h.z2)).trans h.z2, rw_below h.old hb, h.la.below hb, h.lb.below hb, h.ord, h.ra, h.rb, h.dis, h.bel.trans (hb.mono h.bel.size)⟩
theorem emp_nh19 {w3 W : World} {f k m n T : Nat} {B C : Nat → Nat} {va : Nat → Option Addr} {vc : Nat → Nat} {G V : Nat → Nat → Nat} (hR : Rp19 w3 W n T B (ln19 T m) C va vc G) (hV : f ≤ 1 ∧ 1 ≤ k ∧ 1 ≤ m ∧ n = k + m ∧ n ≤ 256 ∧ 1 ≤ T ∧ T ≤ 64) (hVV : (∀ z, z < T → ∀ x, x < n → V x z < 256) ∧ ∀ z, z < T → Cw19 f k n (fun x => V x z)) (hG : ∀ x, x < n → ∀ z, z < T → G x z = V x z) : Nh19 w3 W f k m n T B (ln19 T m) C va vc G V (fun _ => false) :=
  ⟨hR, ⟨hV.1, hV.2.1, hV.2.2.1, hV.2.2.2.1, hV.2.2.2.2.1, hV.2.2.2.2.2.1, by omega⟩, by rw [ln19_cnt hV.2.2.2.2.2.1]; omega, hVV.1, hVV.2, fun z hz => by
    rw [cnb_zero (fun x hx => by rw [hG x hx z hz]; simp)]
    omega, fun x hx => ⟨fun e => (by cases e), fun ⟨_, z, hz, e⟩ => absurd (hG x hx z hz).symm e⟩⟩
set_option maxHeartbeats 1000000 in
theorem mem_c19 {w w3 W : World} {bx gs go gb f k m n T : Nat} {Ba Ca Bb Cb Bw : Nat → Nat} {Ga Gb V : Nat → Nat → Nat} {aS aL aW : Option Addr} {cS nL cL nW cW : Nat} {Lo Co Sh : Nat → Int} {Mk : Nat → Nat}
    (h : Mm19 w3 W go gb n T m Ba Ca Ga Bb Cb Gb) (hV : f ≤ 1 ∧ 1 ≤ k ∧ 1 ≤ m ∧ n = k + m ∧ n ≤ 256 ∧ 1 ≤ T ∧ T ≤ 64) (hVV : (∀ z, z < T → ∀ x, x < n → V x z < 256) ∧ ∀ z, z < T → Cw19 f k n (fun x => V x z)) (hG : ∀ x, x < n → ∀ z, z < T → Ga x z = V x z ∧ Gb x z = V x z) (hgo : w.heap.size ≤ go)
    (hK : ∀ W, Below w3.heap.size w3 W → Pk19 w W bx gs n T (f : Int) (k : Int) (m : Int) aS aL aW cS nL cL nW cW Lo Co Sh Mk Bw V ∧ Rw W go T (fun _ => 99)) :
    Calls Tryz.prog 12 #[.int .i64 (f : Int), .int .i64 (k : Int), .int .i64 (m : Int), .slice (some ⟨w3.heap.size, 0, none⟩) n n] W fun e W6 => ∃ v6, e = .returned (.tuple #[v6, .int .i64 0]) ∧ (W6.cell? ⟨bx, 0, none⟩ = some (.int .i64 (f : Int)) ∧ W6.cell? ⟨bx, 1, none⟩ = some (.int .i64 (k : Int)) ∧ W6.cell? ⟨bx, 2, none⟩ = some (.int .i64 (m : Int))) ∧
    Calls Tryz.prog 12 #[.int .i64 (f : Int), .int .i64 (k : Int), .int .i64 (m : Int), .slice (some ⟨gb, 0, none⟩) n n] W6 fun e W7 => ∃ v7, e = .returned (.tuple #[v7, .int .i64 0]) ∧
    Calls Tryz.prog 14 #[.slice (some ⟨w3.heap.size, 0, none⟩) n n, .slice (some ⟨gs, 0, none⟩) n n] W7 fun e W8 => e = .returned (.bool true) ∧
    Calls Tryz.prog 14 #[.slice (some ⟨gb, 0, none⟩) n n, .slice (some ⟨gs, 0, none⟩) n n] W8 fun e W9 => e = .returned (.bool true) ∧ ∃ Ra Ca' Va Rb Cb' Vb, Mo19 w W9 bx go w3.heap.size gb n T (f : Int) (k : Int) (m : Int) Ra Ca' Va Rb Cb' Vb := by
  have hRa : Rp19 w3 W n T Ba (ln19 T m) Ca (fun x => if x < m then some ⟨go, 0, none⟩ else some ⟨Ba x, 0, none⟩) (fun x => if x < m then T else Ca x) Ga := ⟨h.a, fun x hx _ => Nat.le_of_lt (h.ba x hx).1, fun x _ => by unfold ln19; by_cases e : x < m <;> simp [e], h.bel⟩
  have hbW : ∀ x, x < n → ln19 T m x ≠ 0 → Bb x < W.heap.size := fun x hx h0 => (h.b.rows x hx h0).lt
  have hgbW : gb < W.heap.size := h.b.row.lt
  have hgl := h.gl
  refine (shards_nh19 (emp_nh19 hRa hV hVV (fun x hx z hz => (hG x hx z hz).1))).mono ?_
  rintro e W6 ⟨v6, rfl, -, hb6, hk6, Ra, Ca', Va, hLa, hxa⟩
  obtain ⟨hP6, hO6⟩ := hK W6 hb6
  have hb2 : Lx19 W6 gb n Bb (ln19 T m) Cb _ _ Gb := h.b.ke hk6 (fun e => by
    rcases e with e | ⟨y, hy, _, e⟩
    · omega
    · have := h.ba y hy; omega) (fun x hx h0 e => by
    have := h.bb x hx
    rcases e with e | ⟨y, hy, _, e⟩
    · omega
    · have := h.ba y hy; omega)
  have hRaL : ∀ x, x < n → w3.heap.size < Ra x ∧ (Ra x < gb ∨ W.heap.size ≤ Ra x) := fun x hx => by
    by_cases h0 : ln19 T m x = 0
    · have := ((hxa x hx).2.2 h0).1
      exact ⟨by omega, .inr this⟩
    · rw [((hxa x hx).2.1 h0).1]
      have := h.ba x hx
      exact ⟨this.1, .inl this.2⟩
  have hRa6 : ∀ x, x < n → Ra x < W6.heap.size := fun x hx => (hLa.rows x hx).lt
  obtain ⟨wc, hwc, hbc⟩ := cut_world W6 gb (Nat.le_of_lt (by have := hk6.size; omega))
  refine ⟨v6, rfl, ⟨hP6.z0, hP6.z1, hP6.z2⟩, ?_⟩
  have hbb := h.bb
  subst hwc
  have hRb : Rp19 wc W6 n T Bb (ln19 T m) Cb (fun x => if x < m then none else some ⟨Bb x, 0, none⟩) (fun x => if x < m then 0 else Cb x) Gb := ⟨hb2, fun x hx _ => Nat.le_of_lt (hbb x hx), fun x _ => by unfold ln19; by_cases e : x < m <;> simp [e], hbc⟩
  refine (shards_nh19 (emp_nh19 hRb hV hVV (fun x hx z hz => (hG x hx z hz).2))).mono ?_
  rintro e W7 ⟨v7, rfl, -, hb7, hk7, Rb', Cb', Vb, hLb, hxb⟩
  have hLa7 : Lw19 W7 w3.heap.size n Ra (fun _ => T) Ca' Va := hLa.ke hk7 (fun e => by
    rcases e with e | ⟨y, hy, _, e⟩
    · omega
    · have := hbb y hy; omega) (fun x hx e => by
    have h1 := hRaL x hx
    rcases e with e | ⟨y, hy, hy0, e⟩
    · omega
    · have := hbb y hy; have := hbW y hy hy0; omega)
  have b37 : Below w3.heap.size w3 W7 := hb6.trans (hk7.below (fun x e => by
    rcases e with e | ⟨y, hy, _, e⟩
    · omega
    · have := hbb y hy; omega) hb6.size)
  obtain ⟨hP7, hO7⟩ := hK W7 b37
  have hn9 : n ≤ big := by have := hV; unfold big; omega
  have hM : ∀ q, Mo19 w (W7.drewN q) bx go w3.heap.size wc.heap.size n T (f : Int) (k : Int) (m : Int) Ra Ca' Va Rb' Cb' Vb := fun q => by
    refine (show Mo19 w W7 bx go w3.heap.size wc.heap.size n T (f : Int) (k : Int) (m : Int) Ra Ca' Va Rb' Cb' Vb from ⟨hP7.z0, hP7.z1, hP7.z2, hO7, hLa7, hLb, ⟨hgo, h.go_, hgl⟩, fun x hx => ⟨(hRaL x hx).1, by have := (hRaL x hx).2; omega⟩, fun x hx => ?_, fun x y hx hy => ?_, hP7.bel⟩).below (below_drewN (Below.refl _ _) q)
    · by_cases h0 : ln19 T m x = 0
      · have := ((hxb x hx).2.2 h0).1
        have := hk6.size
        omega
      · rw [((hxb x hx).2.1 h0).1]
        exact hbb x hx
    · have h1 := hRaL x hx
      have h2 := hRa6 x hx
      by_cases h0 : ln19 T m y = 0
      · have := ((hxb y hy).2.2 h0).1
        omega
      · rw [((hxb y hy).2.1 h0).1]
        have := hbb y hy
        have := hbW y hy h0
        omega
  refine ⟨v7, rfl, (sm19_true _ _ n (fun _ => T) Va V _ (hLa7.lb (Nat.le_refl _) hn9) (hP7.want.lb (Nat.le_refl _) hn9) (fun x hx z hz => (hxa x hx).1 z hz)).mono ?_⟩
  rintro e W8 ⟨rfl, q8, rfl⟩
  have bq : Below W7.heap.size W7 (W7.drewN q8) := below_drewN (Below.refl _ _) q8
  refine ⟨rfl, (sm19_true _ _ n (fun _ => T) Vb V _ ((hLb.below bq).lb (Nat.le_refl _) hn9) ((hP7.want.below bq).lb (Nat.le_refl _) hn9) (fun x hx z hz => (hxb x hx).1 z hz)).mono ?_⟩
  rintro e W9 ⟨rfl, q9, rfl⟩
  exact ⟨rfl, _, _, _, _, _, _, (hM q8).below (below_drewN (Below.refl _ _) q9)⟩
end Go.Proofs.YthofhphlfgmklaaGreat
namespace Go.Proofs.YthofhphlfgmklaaGreat
open Go.RowKit Gf2
set_option linter.unusedVariables false

-- layer 19: MendMemory: Column and Syndromes, again and again
/-- what Column and Syndromes gave, each in a block of its own above w0. -/
structure Mv19 (w0 W : World) (gx gy gs gt n m k : Nat) : Prop where
  x : Rw W gx n (fun _ => 7)
  y : Rw W gy n (fun _ => 7)
  s : Rw W gs m (fun i => con19 7 (k + i))
  t : Rw W gt m (fun i => con19 7 (k + i))
  ord : w0.heap.size ≤ gx ∧ gx < gy ∧ gy < gs ∧ gs < gt
  bel : Below w0.heap.size w0 W
theorem rw_full19 {W : World} {g n : Nat} {F : Nat → Nat} (h : Rw W g n F) (hn : n ≤ big) : Rb W (.slice (some ⟨g, 0, none⟩) n n) n F := h.rb0.cut8 (Nat.le_refl _)
theorem up3_19 {n : Nat} (c : Nat) : Up8 n (fun i => 3 * i + c) := fun i j hij hj => by
  show 3 * i + c < 3 * j + c
  omega
theorem mem_d19 {W0 : World} {bx gp gv k m n : Nat} (hk : 1 ≤ k) (hn : n = k + m) (hn2 : n ≤ 12) (hP : Ri W0 gp n (fun i => ((3 * i : Nat) : Int))) (hU : Rw W0 gv n (fun _ => 7)) (hz : ∀ W, Below W0.heap.size W0 W → W.cell? ⟨bx, 1, none⟩ = some (.int .i64 (k : Int)) ∧ W.cell? ⟨bx, 2, none⟩ = some (.int .i64 (m : Int))) :
    Calls Tryz.prog 15 #[.int .i64 (k : Int), .slice (some ⟨gp, 0, none⟩) n n, .slice (some ⟨gv, 0, none⟩) n n] W0 fun e W1 => ∃ gx a1 c1, e = .returned (.tuple #[.slice (some ⟨gx, 0, none⟩) n n, .slice a1 0 c1, .int .i64 0]) ∧ W1.cell? ⟨bx, 1, none⟩ = some (.int .i64 (k : Int)) ∧
    Calls Tryz.prog 15 #[.int .i64 (k : Int), .slice (some ⟨gp, 0, none⟩) n n, .slice (some ⟨gv, 0, none⟩) n n] W1 fun e W2 => ∃ gy a2 c2, e = .returned (.tuple #[.slice (some ⟨gy, 0, none⟩) n n, .slice a2 0 c2, .int .i64 0]) ∧ W2.cell? ⟨bx, 1, none⟩ = some (.int .i64 (k : Int)) ∧
    Calls Tryz.prog 16 #[.int .i64 (k : Int), .slice (some ⟨gp, 0, none⟩) n n, .slice (some ⟨gv, 0, none⟩) n n] W2 fun e W3 => ∃ gs, e = .returned (.tuple #[.slice (some ⟨gs, 0, none⟩) m m, .int .i64 0]) ∧ W3.cell? ⟨bx, 1, none⟩ = some (.int .i64 (k : Int)) ∧
    Calls Tryz.prog 16 #[.int .i64 (k : Int), .slice (some ⟨gp, 0, none⟩) n n, .slice (some ⟨gv, 0, none⟩) n n] W3 fun e W4 => ∃ gt, e = .returned (.tuple #[.slice (some ⟨gt, 0, none⟩) m m, .int .i64 0]) ∧
    Calls Tryz.prog 10 #[.slice (some ⟨gx, 0, none⟩) n n, .slice (some ⟨gv, 0, none⟩) n n] W4 fun e W5 => e = .returned (.bool true) ∧
    Calls Tryz.prog 10 #[.slice (some ⟨gx, 0, none⟩) n n, .slice (some ⟨gy, 0, none⟩) n n] W5 fun e W6 => e = .returned (.bool true) ∧ W6.cell? ⟨bx, 2, none⟩ = some (.int .i64 (m : Int)) ∧
    Calls Tryz.prog 10 #[.slice (some ⟨gs, 0, none⟩) m m, .slice (some ⟨gt, 0, none⟩) m m] W6 fun e W7 => e = .returned (.bool true) ∧ Mv19 W0 W7 gx gy gs gt n m k := by
  have hb9 : n ≤ big := by unfold big; omega
  have hm9 : m ≤ big := by unfold big; omega
  have hq : ∀ {W : World}, Below W0.heap.size W0 W → Qi W (.slice (some ⟨gp, 0, none⟩) n n) n (fun i => (((fun i => 3 * i + 0) i : Nat) : Int)) := fun hb => (hP.below (hb.mono (Nat.le_refl _))).qi (Nat.le_refl _) (Nat.le_refl _) hb9 (fun i _ => rfl)
  have hu : ∀ {W : World}, Below W0.heap.size W0 W → Rb W (.slice (some ⟨gv, 0, none⟩) n n) n (fun _ => 7) := fun hb => rw_full19 (rw_below hU hb) hb9
  have hp : ∀ i, i < n → (fun i => 3 * i + 0) i < 256 := fun i hi => by show 3 * i + 0 < 256; omega
  have hnm : n - k = m := by omega
  have col : ∀ {W : World}, Below W0.heap.size W0 W → _ := fun {W} hb => column_con19 (.slice (some ⟨gp, 0, none⟩) n n) (.slice (some ⟨gv, 0, none⟩) n n) k n 7 (fun i => 3 * i + 0) W (hq hb) (hu hb) (by decide) hk (by omega) (by omega) hp (up3_19 0)
  have syn : ∀ {W : World}, Below W0.heap.size W0 W → _ := fun {W} hb => syndromes_con19 (.slice (some ⟨gp, 0, none⟩) n n) (.slice (some ⟨gv, 0, none⟩) n n) k n 7 (fun i => 3 * i + 0) W (hq hb) (hu hb) (by decide) hk (by omega) (by omega) hp (up3_19 0)
  refine (col (Below.refl _ _)).mono ?_
  rintro e W1 ⟨gx, a1, c1, rfl, hx1, hx, hb1⟩
  refine ⟨gx, a1, c1, rfl, (hz W1 hb1).1, (col hb1).mono ?_⟩
  rintro e W2 ⟨gy, a2, c2, rfl, hy1, hy, hb2⟩
  have b2 := hb1.trans (hb2.mono hb1.size)
  refine ⟨gy, a2, c2, rfl, (hz W2 b2).1, (syn b2).mono ?_⟩
  rw [hnm]
  rintro e W3 ⟨gs, rfl, hs1, hs, hb3⟩
  have b3 := b2.trans (hb3.mono b2.size)
  refine ⟨gs, rfl, (hz W3 b3).1, (syn b3).mono ?_⟩
  rw [hnm]
  rintro e W4 ⟨gt, rfl, ht1, ht, hb4⟩
  have b4 := b3.trans (hb4.mono b3.size)
  have hx4 : Rw W4 gx n (fun _ => 7) := rw_below (rw_below (rw_below hx hb2) hb3) hb4
  have hy4 : Rw W4 gy n (fun _ => 7) := rw_below (rw_below hy hb3) hb4
  have hs4 := rw_below hs hb4
  have hM : Mv19 W0 W4 gx gy gs gt n m k := ⟨hx4, hy4, hs4, ht, ⟨hx1, by have := hx.lt; omega, by have := hy.lt; omega, by have := hs.lt; omega⟩, b4⟩
  have hMd : ∀ q, Mv19 W0 (W4.drewN q) gx gy gs gt n m k := fun q => ⟨hM.x.drewN q, hM.y.drewN q, hM.s.drewN q, hM.t.drewN q, hM.ord, below_drewN hM.bel q⟩
  refine ⟨gt, rfl, (sb19_true _ _ n _ _ W4 (rw_full19 hx4 hb9) (hu b4) (fun _ _ => rfl)).mono ?_⟩
  rintro e W5 ⟨rfl, q5, rfl⟩
  refine ⟨rfl, (sb19_true _ _ n _ _ _ (rw_full19 (hx4.drewN q5) hb9) (rw_full19 (hy4.drewN q5) hb9) (fun _ _ => rfl)).mono ?_⟩
  rintro e W6 ⟨rfl, q6, rfl⟩
  refine ⟨rfl, (hz _ (below_drewN (below_drewN b4 q5) q6)).2, (sb19_true _ _ m _ _ _ (rw_full19 ((hs4.drewN q5).drewN q6) hm9) (rw_full19 ((ht.drewN q5).drewN q6) hm9) (fun _ _ => rfl)).mono ?_⟩
  rintro e W7 ⟨rfl, q7, rfl⟩
  exact ⟨rfl, ((hM.x.drewN q5).drewN q6).drewN q7, ((hM.y.drewN q5).drewN q6).drewN q7, ((hM.s.drewN q5).drewN q6).drewN q7, ((hM.t.drewN q5).drewN q6).drewN q7, hM.ord, below_drewN (below_drewN (below_drewN hM.bel q5) q6) q7⟩
theorem mem_e19 {W : World} {gp gv k m n : Nat} (hk : 1 ≤ k) (hn : n = k + m) (hn2 : n ≤ 12) (hP : Ri W gp n (fun i => ((3 * i + 1 : Nat) : Int))) (hU : Rw W gv n (fun _ => 8)) :
    Calls Tryz.prog 15 #[.int .i64 (k : Int), .slice (some ⟨gp, 0, none⟩) n n, .slice (some ⟨gv, 0, none⟩) n n] W fun e W1 => ∃ gz a c, e = .returned (.tuple #[.slice (some ⟨gz, 0, none⟩) n n, .slice a 0 c, .int .i64 0]) ∧
    Calls Tryz.prog 10 #[.slice (some ⟨gz, 0, none⟩) n n, .slice (some ⟨gv, 0, none⟩) n n] W1 fun e W2 => e = .returned (.bool true) ∧ W.heap.size ≤ gz ∧ Rw W2 gz n (fun _ => 8) ∧ Below W.heap.size W W2 := by
  have hb9 : n ≤ big := by unfold big; omega
  refine (column_con19 (.slice (some ⟨gp, 0, none⟩) n n) (.slice (some ⟨gv, 0, none⟩) n n) k n 8 (fun i => 3 * i + 1) W (hP.qi (Nat.le_refl _) (Nat.le_refl _) hb9 (fun i _ => rfl)) (rw_full19 hU hb9) (by decide) hk (by omega) (by omega) (fun i hi => by show 3 * i + 1 < 256; omega) (up3_19 1)).mono ?_
  rintro e W1 ⟨gz, a, c, rfl, hz1, hz, hb⟩
  refine ⟨gz, a, c, rfl, (sb19_true _ _ n _ _ W1 (rw_full19 hz hb9) (rw_full19 (rw_below hU hb) hb9) (fun _ _ => rfl)).mono ?_⟩
  rintro e W2 ⟨rfl, q, rfl⟩
  exact ⟨rfl, hz1, hz.drewN q, below_drewN hb q⟩
end Go.Proofs.YthofhphlfgmklaaGreat
namespace Go.Proofs.YthofhphlfgmklaaGreat
open Go.RowKit Gf2
set_option linter.unusedVariables false

-- layer 19: MendMemory: the list of all lists
def sel7 {A : Type} (a0 a1 a2 a3 a4 a5 a6 : A) (r : Nat) : A := if r = 0 then a0 else if r = 1 then a1 else if r = 2 then a2 else if r = 3 then a3 else if r = 4 then a4 else if r = 5 then a5 else a6
/-- where the lists lie: seven, then those of a, then those of b. -/
def bl19 {A : Type} (n : Nat) (h a b : Nat → A) (r : Nat) : A := if r < 7 then h r else if r < 7 + n then a (r - 7) else b (r - 7 - n)
theorem sel7_cases {P : Nat → Prop} (h0 : P 0) (h1 : P 1) (h2 : P 2) (h3 : P 3) (h4 : P 4) (h5 : P 5) (h6 : P 6) {r : Nat} (h : r < 7) : P r := by
  rcases (show r = 0 ∨ r = 1 ∨ r = 2 ∨ r = 3 ∨ r = 4 ∨ r = 5 ∨ r = 6 by omega) with rfl | rfl | rfl | rfl | rfl | rfl | rfl <;> assumption
theorem bl19_cases {A : Type} {n : Nat} {h a b : Nat → A} {P : Nat → A → Prop} (h1 : ∀ r, r < 7 → P r (h r)) (h2 : ∀ x, x < n → P (7 + x) (a x)) (h3 : ∀ x, x < n → P (7 + n + x) (b x)) : ∀ r, r < 7 + n + n → P r (bl19 n h a b r) := fun r hr => by
  unfold bl19
  by_cases e : r < 7
  · rw [if_pos e]; exact h1 r e
  · rw [if_neg e]
    by_cases e2 : r < 7 + n
    · rw [if_pos e2]
      have := h2 (r - 7) (by omega)
      rwa [show 7 + (r - 7) = r by omega] at this
    · rw [if_neg e2]
      have := h3 (r - 7 - n) (by omega)
      rwa [show 7 + n + (r - 7 - n) = r by omega] at this
theorem bl19_h {A : Type} {n : Nat} {h a b : Nat → A} {r : Nat} (e : r < 7) : bl19 n h a b r = h r := if_pos e
theorem bl19_a {A : Type} {n : Nat} {h a b : Nat → A} {x : Nat} (e : x < n) : bl19 n h a b (7 + x) = a x := by
  unfold bl19
  rw [if_neg (by omega), if_pos (by omega), show 7 + x - 7 = x by omega]
theorem bl19_b {A : Type} {n : Nat} {h a b : Nat → A} {x : Nat} (e : x < n) : bl19 n h a b (7 + n + x) = b x := by
  unfold bl19
  rw [if_neg (by omega), if_neg (by omega), show 7 + n + x - 7 - n = x by omega]
/-- what stands ahead of the list of all lists. -/
structure Mw19 (w W : World) (go ga gb gv gx gy gz gs gt n m T k : Nat) (Ra Ca : Nat → Nat) (Va : Nat → Nat → Nat) (Rb Cb : Nat → Nat) (Vb : Nat → Nat → Nat) : Prop where
  old : Rw W go T (fun _ => 99)
  la : Lw19 W ga n Ra (fun _ => T) Ca Va
  lb : Lw19 W gb n Rb (fun _ => T) Cb Vb
  v : Rw W gv n (fun _ => 8)
  x : Rw W gx n (fun _ => 7)
  y : Rw W gy n (fun _ => 7)
  z : Rw W gz n (fun _ => 8)
  s : Rw W gs m (fun i => con19 7 (k + i))
  t : Rw W gt m (fun i => con19 7 (k + i))
  ord : w.heap.size ≤ go ∧ go < ga ∧ ga < gb
  ra : ∀ x, x < n → ga < Ra x ∧ Ra x < gv
  rb : ∀ x, x < n → ga < Rb x ∧ Rb x < gv
  hd : gb < gv ∧ gv < gx ∧ gx < gy ∧ gy < gs ∧ gs < gt ∧ gt < gz
  dis : ∀ x y, x < n → y < n → Ra x ≠ Rb y
  bel : Below w.heap.size w W
set_option maxHeartbeats 1000000 in
theorem lists19 {w W : World} {go ga gb gv gx gy gz gs gt n m T k : Nat} {Ra Ca Rb Cb : Nat → Nat} {Va Vb : Nat → Nat → Nat} (h : Mw19 w W go ga gb gv gx gy gz gs gt n m T k Ra Ca Va Rb Cb Vb) (hn : n ≤ 12) (hm : m ≤ 12) (hT : T ≤ 16) :
    ∃ W1 W2 g1 C1 g2 C2 F, (Builtin.append_ #[22, 22] 22 #[.slice (some ⟨W.heap.size, 0, none⟩) 7 7, .slice (some ⟨ga, 0, none⟩) n n]).run Tryz.prog (W.alloc (.cells #[.slice (some ⟨go, 0, none⟩) T T, .slice (some ⟨gv, 0, none⟩) n n, .slice (some ⟨gx, 0, none⟩) n n, .slice (some ⟨gy, 0, none⟩) n n, .slice (some ⟨gz, 0, none⟩) n n, .slice (some ⟨gs, 0, none⟩) m m, .slice (some ⟨gt, 0, none⟩) m m] 31)) = .ok (.slice (some ⟨g1, 0, none⟩) (7 + n) C1) W1 ∧
      (Builtin.append_ #[22, 22] 22 #[.slice (some ⟨g1, 0, none⟩) (7 + n) C1, .slice (some ⟨gb, 0, none⟩) n n]).run Tryz.prog W1 = .ok (.slice (some ⟨g2, 0, none⟩) (7 + n + n) C2) W2 ∧
      Mn W2 w.heap.size g2 (7 + n + n) (bl19 n (sel7 go gv gx gy gz gs gt) Ra Rb) (bl19 n (sel7 T n n n n m m) (fun _ => T) (fun _ => T)) (bl19 n (sel7 T n n n n m m) Ca Cb) F ∧ Below w.heap.size w W2 := by
  obtain ⟨W0, hW0⟩ : ∃ W0, W.alloc (.cells #[.slice (some ⟨go, 0, none⟩) T T, .slice (some ⟨gv, 0, none⟩) n n, .slice (some ⟨gx, 0, none⟩) n n, .slice (some ⟨gy, 0, none⟩) n n, .slice (some ⟨gz, 0, none⟩) n n, .slice (some ⟨gs, 0, none⟩) m m, .slice (some ⟨gt, 0, none⟩) m m] 31) = W0 := ⟨_, rfl⟩
  rw [hW0]
  have b0 : Below W.heap.size W W0 := by rw [← hW0]; exact (Below.refl _ _).alloc (Nat.le_refl _) _
  have hs0 : W0.heap.size = W.heap.size + 1 := by rw [← hW0]; simp
  have r0 : W0.rowIs W.heap.size 31 7 (sel7 (.slice (some ⟨go, 0, none⟩) T T) (.slice (some ⟨gv, 0, none⟩) n n) (.slice (some ⟨gx, 0, none⟩) n n) (.slice (some ⟨gy, 0, none⟩) n n) (.slice (some ⟨gz, 0, none⟩) n n) (.slice (some ⟨gs, 0, none⟩) m m) (.slice (some ⟨gt, 0, none⟩) m m)) := by
    rw [← hW0]
    refine ⟨_, heap_alloc_new _ _, rfl, fun i hi => ?_⟩
    exact sel7_cases (P := fun i => (#[.slice (some ⟨go, 0, none⟩) T T, .slice (some ⟨gv, 0, none⟩) n n, .slice (some ⟨gx, 0, none⟩) n n, .slice (some ⟨gy, 0, none⟩) n n, .slice (some ⟨gz, 0, none⟩) n n, .slice (some ⟨gs, 0, none⟩) m m, .slice (some ⟨gt, 0, none⟩) m m] : Array Value)[i]? = some (sel7 _ _ _ _ _ _ _ i)) rfl rfl rfl rfl rfl rfl rfl hi
  have la0 := h.la.below b0
  obtain ⟨W1, g1, C1, F1, run1, hC1, r1, f1a, f1b, hc1⟩ := appv elm_l8 W0 r0 (Nat.le_refl _) (x := some ⟨ga, 0, none⟩) (n := n) (cx := n) (S := fun x => .slice (some ⟨Ra x, 0, none⟩) T (Ca x)) (fun _ _ => rfl) (fun _ => ⟨ga, 0, rfl, fun i hi => by rw [Nat.zero_add]; exact la0.row.cell hi⟩) (by omega)
  have hg1 : W.heap.size ≤ g1 := by
    rcases hc1 with ⟨e, -, -⟩ | ⟨e, -, -, -⟩
    · omega
    · omega
  have b1 : Below W.heap.size W W1 := by
    rcases hc1 with ⟨e, -, ho⟩ | ⟨e, -, -, hb⟩
    · exact b0.trans (Ke.below (E := fun x => x = W.heap.size) ho.kp.ke (fun x e => by omega) b0.size)
    · exact b0.trans (hb.mono b0.size)
  have lb1 := h.lb.below b1
  obtain ⟨W2, g2, C2, F2, run2, hC2, r2, f2a, f2b, hc2⟩ := appv elm_l8 W1 r1 hC1 (x := some ⟨gb, 0, none⟩) (n := n) (cx := n) (S := fun x => .slice (some ⟨Rb x, 0, none⟩) T (Cb x)) (fun _ _ => rfl) (fun _ => ⟨gb, 0, rfl, fun i hi => by rw [Nat.zero_add]; exact lb1.row.cell hi⟩) (by omega)
  have hs1 : W.heap.size ≤ W1.heap.size := b1.size
  have hg2 : W.heap.size ≤ g2 := by
    rcases hc2 with ⟨e, -, -⟩ | ⟨e, -, -, -⟩
    · omega
    · omega
  have b2 : Below W.heap.size W W2 := by
    rcases hc2 with ⟨e, -, ho⟩ | ⟨e, -, -, hb⟩
    · exact b1.trans (Ke.below (E := fun x => x = g1) ho.kp.ke (fun x e => by omega) hs1)
    · exact b1.trans (hb.mono hs1)
  have hrow : ∀ r, r < 7 + n + n → ∃ F, Rw W (bl19 n (sel7 go gv gx gy gz gs gt) Ra Rb r) (bl19 n (sel7 T n n n n m m) Ca Cb r) F := by
    intro r hr
    by_cases e : r < 7
    · rw [bl19_h e, bl19_h e]
      exact sel7_cases (P := fun r => ∃ F, Rw W (sel7 go gv gx gy gz gs gt r) (sel7 T n n n n m m r) F) ⟨_, h.old⟩ ⟨_, h.v⟩ ⟨_, h.x⟩ ⟨_, h.y⟩ ⟨_, h.z⟩ ⟨_, h.s⟩ ⟨_, h.t⟩ e
    · by_cases e2 : r < 7 + n
      · obtain ⟨x, rfl⟩ : ∃ x, r = 7 + x := ⟨r - 7, by omega⟩
        rw [bl19_a (by omega), bl19_a (by omega)]
        exact ⟨_, h.la.rows x (by omega)⟩
      · obtain ⟨x, rfl⟩ : ∃ x, r = 7 + n + x := ⟨r - 7 - n, by omega⟩
        rw [bl19_b (by omega), bl19_b (by omega)]
        exact ⟨_, h.lb.rows x (by omega)⟩
  obtain ⟨o1, o2, o3⟩ := h.ord
  obtain ⟨p1, p2, p3, p4, p5, p6⟩ := h.hd
  have hz9 := h.z.lt
  have hlt : ∀ r, r < 7 + n + n → bl19 n (sel7 go gv gx gy gz gs gt) Ra Rb r < W.heap.size := fun r hr => by obtain ⟨F, hF⟩ := hrow r hr; exact hF.lt
  have hlo : ∀ r, r < 7 + n + n → w.heap.size ≤ bl19 n (sel7 go gv gx gy gz gs gt) Ra Rb r := bl19_cases (P := fun _ b => w.heap.size ≤ b) (fun r hr => sel7_cases (P := fun r => w.heap.size ≤ sel7 go gv gx gy gz gs gt r) o1 (by show _ ≤ gv; omega) (by show _ ≤ gx; omega) (by show _ ≤ gy; omega) (by show _ ≤ gz; omega) (by show _ ≤ gs; omega) (by show _ ≤ gt; omega) hr) (fun x hx => by have := h.ra x hx; omega) (fun x hx => by have := h.rb x hx; omega)
  have hcell : ∀ r, r < 7 + n + n → W2.cell? ⟨g2, r, none⟩ = some (.slice (some ⟨bl19 n (sel7 go gv gx gy gz gs gt) Ra Rb r, 0, none⟩) (bl19 n (sel7 T n n n n m m) (fun _ => T) (fun _ => T) r) (bl19 n (sel7 T n n n n m m) Ca Cb r)) := by
    intro r hr
    rw [r2.cell (by omega)]
    by_cases e : r < 7
    · rw [f2a r (by omega), f1a r e, bl19_h e, bl19_h e, bl19_h e]
      exact sel7_cases (P := fun r => some (sel7 (.slice (some ⟨go, 0, none⟩) T T) (.slice (some ⟨gv, 0, none⟩) n n) (.slice (some ⟨gx, 0, none⟩) n n) (.slice (some ⟨gy, 0, none⟩) n n) (.slice (some ⟨gz, 0, none⟩) n n) (.slice (some ⟨gs, 0, none⟩) m m) (.slice (some ⟨gt, 0, none⟩) m m) r) = some (Value.slice (some ⟨sel7 go gv gx gy gz gs gt r, 0, none⟩) (sel7 T n n n n m m r) (sel7 T n n n n m m r))) rfl rfl rfl rfl rfl rfl rfl e
    · by_cases e2 : r < 7 + n
      · obtain ⟨x, rfl⟩ : ∃ x, r = 7 + x := ⟨r - 7, by omega⟩
        rw [f2a _ e2, f1b x (by omega), bl19_a (by omega), bl19_a (by omega), bl19_a (by omega)]
      · obtain ⟨x, rfl⟩ : ∃ x, r = 7 + n + x := ⟨r - 7 - n, by omega⟩
        rw [f2b x (by omega), bl19_b (by omega), bl19_b (by omega), bl19_b (by omega)]
  have hinj : ∀ r s, r < 7 + n + n → s < 7 + n + n → r < s → bl19 n (sel7 go gv gx gy gz gs gt) Ra Rb r ≠ bl19 n (sel7 go gv gx gy gz gs gt) Ra Rb s := by
    intro r s hr hs hrs
    have hh : ∀ r, r < 7 → sel7 go gv gx gy gz gs gt r = go ∨ gv ≤ sel7 go gv gx gy gz gs gt r := fun r hr => sel7_cases (P := fun r => sel7 go gv gx gy gz gs gt r = go ∨ gv ≤ sel7 go gv gx gy gz gs gt r) (.inl rfl) (.inr (Nat.le_refl _)) (.inr (by show gv ≤ gx; omega)) (.inr (by show gv ≤ gy; omega)) (.inr (by show gv ≤ gz; omega)) (.inr (by show gv ≤ gs; omega)) (.inr (by show gv ≤ gt; omega)) hr
    by_cases e : s < 7
    · rw [bl19_h e, bl19_h (by omega)]
      have hr7 : r < 7 := by omega
      rcases (show r = 0 ∨ r = 1 ∨ r = 2 ∨ r = 3 ∨ r = 4 ∨ r = 5 by omega) with rfl | rfl | rfl | rfl | rfl | rfl <;>
      rcases (show s = 1 ∨ s = 2 ∨ s = 3 ∨ s = 4 ∨ s = 5 ∨ s = 6 by omega) with rfl | rfl | rfl | rfl | rfl | rfl <;>
      first
        | (exfalso; omega)
        | (intro e9; simp [sel7] at e9; omega)
    · by_cases e2 : s < 7 + n
      · obtain ⟨x, rfl⟩ : ∃ x, s = 7 + x := ⟨s - 7, by omega⟩
        rw [bl19_a (by omega)]
        have hx := h.ra x (by omega)
        by_cases e3 : r < 7
        · rw [bl19_h e3]
          have := hh r e3
          omega
        · obtain ⟨y, rfl⟩ : ∃ y, r = 7 + y := ⟨r - 7, by omega⟩
          rw [bl19_a (by omega)]
          exact h.la.inj y x (by omega) (by omega) (by omega)
      · obtain ⟨x, rfl⟩ : ∃ x, s = 7 + n + x := ⟨s - 7 - n, by omega⟩
        rw [bl19_b (by omega)]
        have hx := h.rb x (by omega)
        by_cases e3 : r < 7
        · rw [bl19_h e3]
          have := hh r e3
          omega
        · by_cases e4 : r < 7 + n
          · obtain ⟨y, rfl⟩ : ∃ y, r = 7 + y := ⟨r - 7, by omega⟩
            rw [bl19_a (by omega)]
            exact h.dis y x (by omega) (by omega)
          · obtain ⟨y, rfl⟩ : ∃ y, r = 7 + n + y := ⟨r - 7 - n, by omega⟩
            rw [bl19_b (by omega)]
            exact h.lb.inj y x (by omega) (by omega) (by omega)
  have hcl : ∀ r, r < 7 + n + n → bl19 n (sel7 T n n n n m m) (fun _ => T) (fun _ => T) r ≤ bl19 n (sel7 T n n n n m m) Ca Cb r ∧ bl19 n (sel7 T n n n n m m) (fun _ => T) (fun _ => T) r ≤ 1000 := by
    intro r hr
    by_cases e : r < 7
    · rw [bl19_h e, bl19_h e]
      refine ⟨Nat.le_refl _, sel7_cases (P := fun r => sel7 T n n n n m m r ≤ 1000) ?_ ?_ ?_ ?_ ?_ ?_ ?_ e⟩
      · show T ≤ 1000; omega
      · show n ≤ 1000; omega
      · show n ≤ 1000; omega
      · show n ≤ 1000; omega
      · show n ≤ 1000; omega
      · show m ≤ 1000; omega
      · show m ≤ 1000; omega
    · by_cases e2 : r < 7 + n
      · obtain ⟨x, rfl⟩ : ∃ x, r = 7 + x := ⟨r - 7, by omega⟩
        rw [bl19_a (by omega), bl19_a (by omega)]
        exact ⟨h.la.le x (by omega), by omega⟩
      · obtain ⟨x, rfl⟩ : ∃ x, r = 7 + n + x := ⟨r - 7 - n, by omega⟩
        rw [bl19_b (by omega), bl19_b (by omega)]
        exact ⟨h.lb.le x (by omega), by omega⟩
  obtain ⟨F, hF⟩ : ∃ F : Nat → Nat → Nat, ∀ r, r < 7 + n + n → Rw W (bl19 n (sel7 go gv gx gy gz gs gt) Ra Rb r) (bl19 n (sel7 T n n n n m m) Ca Cb r) (F r) := ⟨fun r => if hr : r < 7 + n + n then Classical.choose (hrow r hr) else fun _ => 0, fun r hr => by
    simp only [dif_pos hr]
    exact Classical.choose_spec (hrow r hr)⟩
  refine ⟨W1, W2, g1, C1, g2, C2, F, run1, run2, ⟨hcell, fun r hr => rw_below (hF r hr) b2, fun r s hr hs e => ?_, fun r hr e => ?_, hlo, r2.lt, hcl⟩, h.bel.trans (b2.mono h.bel.size)⟩
  · apply Classical.byContradiction
    intro hne
    rcases Nat.lt_or_gt_of_ne hne with h9 | h9
    · exact hinj r s hr hs h9 e
    · exact hinj s r hs hr h9 e.symm
  · have := hlt r hr
    omega
end Go.Proofs.YthofhphlfgmklaaGreat
namespace Go.Proofs.YthofhphlfgmklaaGreat
open Go.RowKit Gf2
set_option linter.unusedVariables false

-- layer 19: MendMemory: all that stands ahead of the list of all lists
theorem mw19 {w WA W0 W7 W8 Wz : World} {bx go ga gb gp gv gx gy gz gs gt n m T k : Nat} {f kk mm : Int} {Ra Ca Rb Cb : Nat → Nat} {Va Vb : Nat → Nat → Nat} (hA : Mo19 w WA bx go ga gb n T f kk mm Ra Ca Va Rb Cb Vb) (hgp : WA.heap.size = gp) (hgv : gp < gv) (hvW : gv < W0.heap.size) (b0 : Below WA.heap.size WA W0) (hV : Mv19 W0 W7 gx gy gs gt n m k) (hk : Ke (fun x => x = gp ∨ x = gv) W7 W8) (hU : Rw W8 gv n (fun _ => 8)) (hz1 : W8.heap.size ≤ gz) (hz : Rw Wz gz n (fun _ => 8)) (bz : Below W8.heap.size W8 Wz) :
    Mw19 w Wz go ga gb gv gx gy gz gs gt n m T k Ra Ca Va Rb Cb Vb := by
  obtain ⟨o1, o2, o3, o4⟩ := hV.ord
  have b7 : Below WA.heap.size WA W7 := b0.trans (hV.bel.mono b0.size)
  have b8 : Below WA.heap.size WA W8 := b7.trans (hk.below (fun x e => by omega) b7.size)
  have bZ : Below WA.heap.size WA Wz := b8.trans (bz.mono b8.size)
  have hM := hA.below bZ
  have hgb : gb < WA.heap.size := hA.lb.row.lt
  have hs := hk.size
  have ht := hV.t.lt
  exact ⟨hM.old, hM.la, hM.lb, rw_below hU bz, rw_below (hk.rw_ hV.x (by omega)) bz, rw_below (hk.rw_ hV.y (by omega)) bz, hz, rw_below (hk.rw_ hV.s (by omega)) bz, rw_below (hk.rw_ hV.t (by omega)) bz, hA.ord, fun x hx => ⟨(hA.ra x hx).1, by have := (hA.la.rows x hx).lt; omega⟩, fun x hx => ⟨by have := hA.rb x hx; have := hA.ord; omega, by have := (hA.lb.rows x hx).lt; omega⟩, by omega, hA.dis, hM.bel⟩
theorem fin19 {w W : World} {go ga gb gv gx gy gz gs gt n m T k : Nat} {Ra Ca Rb Cb : Nat → Nat} {Va Vb : Nat → Nat → Nat} (h : Mw19 w W go ga gb gv gx gy gz gs gt n m T k Ra Ca Va Rb Cb Vb) (hn : n ≤ 12) (hm : m ≤ 12) (hT : T ≤ 16) :
    ∃ W1 W2 g1 C1 g2 C2, (Builtin.append_ #[22, 22] 22 #[.slice (some ⟨W.heap.size, 0, none⟩) 7 7, .slice (some ⟨ga, 0, none⟩) n n]).run Tryz.prog (W.alloc (.cells #[.slice (some ⟨go, 0, none⟩) T T, .slice (some ⟨gv, 0, none⟩) n n, .slice (some ⟨gx, 0, none⟩) n n, .slice (some ⟨gy, 0, none⟩) n n, .slice (some ⟨gz, 0, none⟩) n n, .slice (some ⟨gs, 0, none⟩) m m, .slice (some ⟨gt, 0, none⟩) m m] 31)) = .ok (.slice (some ⟨g1, 0, none⟩) (7 + n) C1) W1 ∧
      (Builtin.append_ #[22, 22] 22 #[.slice (some ⟨g1, 0, none⟩) (7 + n) C1, .slice (some ⟨gb, 0, none⟩) n n]).run Tryz.prog W1 = .ok (.slice (some ⟨g2, 0, none⟩) (7 + n + n) C2) W2 ∧
      Calls Tryz.prog 17 #[.slice (some ⟨g2, 0, none⟩) (7 + n + n) C2] W2 fun e W' => e = .returned (.bool true) ∧ Below w.heap.size w W' := by
  obtain ⟨W1, W2, g1, C1, g2, C2, F, r1, r2, hM, hb⟩ := lists19 h hn hm hT
  refine ⟨W1, W2, g1, C1, g2, C2, r1, r2, (apart19 w.heap.size g2 (7 + n + n) C2 _ _ _ F W2 (by omega) hb.size hM).mono ?_⟩
  rintro e W' ⟨rfl, hB⟩
  exact ⟨rfl, hb.trans hB.1⟩
end Go.Proofs.YthofhphlfgmklaaGreat
