import Derived.Test.YtdnjddnjaekgeaaEbo
import Derived.Test.YtdnjddnjaekgeaaNibbleRoomWalk
import Derived.JoinedCond
namespace Go.Proofs.Ytdnjddnjaekgeaa.nibbleRoom
open Go.ChangeShapes Go.WideShapes Go.ChangeAt Go.RowKit Go.Deep
set_option linter.unusedVariables false

theorem bulk_pos {H : Type} (d : DataW H) : 1 ≤ Rows.uptoBulk d := by
  cases d with
  | lit l => cases l <;> simp [Rows.uptoBulk]
  | _ => simp [Rows.uptoBulk]
theorem bulk_len {H : Type} : ∀ l : List (DataW H), l.length ≤ Rows.uptoBulkAll l
  | [] => by simp [Rows.uptoBulkAll]
  | d :: r => by
    have h1 := bulk_pos d
    have h2 := bulk_len r
    simp only [Rows.uptoBulkAll, List.length_cons]
    omega
theorem six_of {α : Type} {cs : Array α} (h : cs.size = 6) : ∃ c0 c1 c2 c3 c4 c5, cs = #[c0, c1, c2, c3, c4, c5] := by
  obtain ⟨l⟩ := cs
  match l, h with
  | [c0, c1, c2, c3, c4, c5], _ => exact ⟨c0, c1, c2, c3, c4, c5, rfl⟩
theorem cells_room : Try.prog.cellsOf 45 = 6 := by kernel_rfl
theorem cells_5 : Try.prog.cellsOf 5 = 1 := by kernel_rfl
theorem cells_22 : Try.prog.cellsOf 22 = 1 := by kernel_rfl
theorem cells_4 : Try.prog.cellsOf 4 = 1 := by kernel_rfl
/-- bytes that came in, few. -/
theorem open_few {H : Type} {enc : TypeId × Value → H} {W : World} {base : Nat} {held : Bool} {fuel : Nat} {v : Value} {x : DataW H × List MemPlace}
    (h : DataW.trod enc Try.prog W base (fun _ => true) held fuel 22 [v] = some x) (hb : Rows.uptoBulk x.1 ≤ 1048576) :
    ∃ a len cap F, v = .slice a len cap ∧ Rb W (.slice a len cap) len F ∧ len ≤ 1048576 := by
  obtain ⟨a, len, cap, rfl⟩ : ∃ a len cap, v = .slice a len cap := by
    rcases open_slice Try.underlying22 h with ⟨hcs, _⟩ | ⟨a', len', cap', m, n, D, Pl, hcs, _⟩
    · simp at hcs; exact ⟨_, _, _, hcs⟩
    · simp at hcs; exact ⟨_, _, _, hcs⟩
  obtain ⟨-, F, hF⟩ := open_bytes5 h (fun el sp he => by
    rw [he] at hb
    simp only [Rows.uptoBulk] at hb
    have h1 := bulk_len el
    have h2 := bulk_len sp
    rw [bytes_u8]
    unfold reachBytes
    omega)
  refine ⟨a, len, cap, F, rfl, hF, ?_⟩
  rcases open_slice Try.underlying22 h with ⟨hcs, _⟩ | ⟨a', len', cap', m, n, D, Pl, hcs, -, -, -, -, hxe, -⟩
  · simp at hcs
    obtain ⟨-, rfl, -⟩ := hcs
    omega
  · simp at hcs
    obtain ⟨-, rfl, -⟩ := hcs
    rw [hxe] at hb
    simp only [Rows.uptoBulk] at hb
    have h1 := bulk_len ((List.range len).map D)
    rw [List.length_map, List.length_range] at h1
    omega
/-- the struct, opened. -/
theorem open_room {H : Type} {enc : TypeId × Value → H} {W W' : World} {base base' : Nat} {held : Bool} {v : Value} {d : DataW H} {p : List MemPlace}
    (ho : Value.okWide Try.prog W' .any base' 45 v) (h : DataW.Trod enc Try.prog W base (fun _ => true) held 45 v d p) (hb : Rows.uptoBulk d ≤ 1048576) :
    ∃ (c : Nat) (xA xD xS xB : Option Addr) (nA nD nS nB cA cD cS cB : Nat) (A D S B : Nat → Nat) (add : Bool), v = .agg #[.int .u8 (c : Int), .slice xA nA cA, .slice xD nD cD, .slice xS nS cS, .slice xB nB cB, .bool add] ∧ c < 256 ∧
      Rb W (.slice xA nA cA) nA A ∧ Rb W (.slice xD nD cD) nD D ∧ Rb W (.slice xS nS cS) nS S ∧ Rb W (.slice xB nB cB) nB B ∧ nA ≤ 1048576 ∧ nD ≤ 1048576 ∧ nS ≤ 1048576 ∧ nB ≤ 1048576 := by
  obtain ⟨cs, rfl, hsz⟩ := okWide_struct Try.underlying45 ho
  obtain ⟨c0, c1, c2, c3, c4, c5, rfl⟩ := six_of (hsz.trans cells_room)
  obtain ⟨fuel, hf⟩ := h
  obtain ⟨xs, n, -, hx, -, hlen, hf⟩ := DataW.trod_struct Try.underlying45 hf
  match xs, hlen with
  | [y0, y1, y2, y3, y4, y5], _ =>
    have h0 := hf 0 _ rfl
    have h1 := hf 1 _ rfl
    have h2 := hf 2 _ rfl
    have h3 := hf 3 _ rfl
    have h4 := hf 4 _ rfl
    have h5 := hf 5 _ rfl
    simp [Value.cells, cells_5] at h0
    simp [Value.cells, cells_22] at h1 h2 h3 h4
    simp [Value.cells, cells_4] at h5
    simp only [Prod.mk.injEq] at hx
    rw [hx.1] at hb
    simp only [Rows.uptoBulk, List.map_cons, List.map_nil, Rows.uptoBulkAll] at hb
    obtain ⟨k0, e0, -, w0⟩ := DataW.trod_int Try.underlying5 h0
    simp at e0
    subst e0
    have b0 := bounds_u8 w0
    have t0 : ((k0.toNat : Nat) : Int) = k0 := by omega
    obtain ⟨xA, nA, cA, A, rfl, rA, lA⟩ := open_few h1 (by omega)
    obtain ⟨xD, nD, cD, D, rfl, rD, lD⟩ := open_few h2 (by omega)
    obtain ⟨xS, nS, cS, S, rfl, rS, lS⟩ := open_few h3 (by omega)
    obtain ⟨xB, nB, cB, B, rfl, rB, lB⟩ := open_few h4 (by omega)
    obtain ⟨b, e5, -⟩ := DataW.trod_bool Try.underlying4 h5
    simp at e5
    subst e5
    exact ⟨k0.toNat, xA, xD, xS, xB, nA, nD, nS, nB, cA, cD, cS, cB, A, D, S, B, b, by rw [t0], by omega, rA, rD, rS, rB, lA, lD, lS, lB⟩

set_option maxRecDepth 100000 in
theorem lifted (os : Os) (started : os.Started) (H : Type) (enc : TypeId × Value → H) (F : Stop.Interp) :
    ReturnsInHanded {} Try.checked os 6 .any ((Rows.OpenSpec.upto Rows.nibbleRoomSpec).pre6 enc Try.prog Try.f6 Rows.nibbleRoomUptoRow.domain false) (((Rows.OpenSpec.upto Rows.nibbleRoomSpec).at F).post enc Try.prog Try.f6 false true false false) := by
  refine returnsInHanded_of_cond (C := Try.checked) (s := Rows.OpenSpec.upto Rows.nibbleRoomSpec) (k := Rows.uptoSmall) rfl own5 started (by kernel_rfl) Try.func6
    (OpenSpec.witness (enc := enc) (C := Try.checked) (s := Rows.OpenSpec.upto Rows.nibbleRoomSpec) (k := Rows.uptoSmall) rfl false ⟨#[], #[.agg #[.int .u8 0, .slice none 0 0, .slice none 0 0, .slice none 0 0, .slice none 0 0, .bool false]], []⟩ 8 (by kernel_rfl) (by kernel_rfl) (by kernel_rfl)
      (x := ([.agg [.lit (.int .u8 0), .nil, .nil, .nil, .nil, .lit (.bool false)]], [], [])) (by kernel_rfl) rfl (by kernel_rfl)) ?_
  intro W base args ds gs before hval0 hW _ hk _
  have hval : ∀ (j : Nat) t v, Try.f6.params[j]? = some t → args[j]? = some v → Value.okWide Try.prog W .any base t v := hval0
  have hW' := hW
  obtain ⟨p, q, hA0, hV, rfl, hfz, hnd⟩ := hW
  have hA : DataW.TrodAll enc Try.prog W 0 (fun _ => true) true Try.f6.params.toList args.toList ds p := hA0
  rw [Try.params6] at hA hval
  obtain ⟨v0, vs0, d0, ds0, p0, q0, hargs0, rfl, rfl, h0, r0⟩ := trodAll_cons hA
  obtain ⟨rfl, rfl, rfl⟩ := trodAll_nil r0
  obtain rfl : args = #[v0] := by cases args; simp_all
  obtain ⟨rfl, rfl⟩ := trodVars_none hV
  have hbulk : Rows.uptoBulk d0 ≤ 1048576 := by
    have h : Rows.uptoBulkAll ([d0] ++ []) ≤ 1048576 := of_decide_eq_true hk
    simp only [List.append_nil, Rows.uptoBulkAll] at h
    omega
  have lt0 : ∀ x ∈ p0, x.block < W.heap.size := by obtain ⟨m, hm⟩ := h0; exact DataW.trod_lt m _ _ _ hm
  obtain ⟨c, xA, xD, xS, xB, nA, nD, nS, nB, cA, cD, cS, cB, A, D, S, B, add, rfl, hc, rA, rD, rS, rB, lA, lD, lS, lB⟩ := open_room (hval 0 45 v0 rfl rfl) h0 hbulk
  clear hA0 hval0
  refine (room_walk c nA nD nS nB xA xD xS xB cA cD cS cB A D S B add W hc rA rD rS rB lA lD lS lB).mono fun e W' ⟨he, bel⟩ => ?_
  subst he
  exact ⟨_, rfl, _, _, _, [], _, [], hW', trodAll_mk1 (shut_bool Try.underlying4 _), (trodAll_cons_mk (Below.trod laidOut5 (by kernel_rfl) (of_decide_eq_true (by kernel_rfl)) h0 bel lt0) trodAll_mk0), rfl, bel.frame _, fun h => by cases h⟩

theorem proved : Rows.NibbleRoomUptoSaid :=
  OpenClaim.holds_of_cond 6 Try.f6 rfl rfl rfl rfl rfl rfl rfl ⟨rfl, rfl, rfl, rfl, rfl⟩ rfl rfl rfl rfl rfl (by kernel_rfl) Try.func6 (by kernel_rfl)
    (of_decide_eq_true (by kernel_rfl)) (by unfold Func.isWrapper; first | (rw [if_pos (by decide +kernel)]; kernel_rfl) | (rw [if_neg (by decide +kernel)]; exact ⟨rfl, rfl⟩))
    (fun os started H enc _ F => lifted os started H enc F)
#print axioms proved
end Go.Proofs.Ytdnjddnjaekgeaa.nibbleRoom
