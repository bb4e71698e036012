import Derived.Test.YtdeophhcbkahgaaSkb
import Derived.Test.YtdeophhcbkahgaaEsj
namespace Go.Proofs.Ytdeophhcbkahgaa
open Go.RowKit Gf2
set_option linter.unusedVariables false

/-- how the list of src reads while block g turns: where nothing was written yet it reads S. -/
def Rdg (w : World) (g N o n h q : Nat) (F S : Nat → Nat) : Prop := ∀ w' G, Kp g w w' → Rw w' g N G → ∀ i, i < n → G (o + i) = F (o + i) → S i < 256 ∧ w'.cell? ⟨h, q + i, none⟩ = some (.int .u8 (S i : Nat))
/-- what stands in dst behind a call. -/
def vmix (c keep d s : Nat) : Nat := (d &&& keep) ^^^ fm 285 c s
theorem vmix_lt {c keep d s : Nat} (hd : d < 256) : vmix c keep d s < 256 := Nat.xor_lt_two_pow (n := 8) (Nat.lt_of_le_of_lt Nat.and_le_left hd) (fm8_lt _ _)
theorem tail_next (F V : Nat → Nat) (o n k i : Nat) (hk : k < n) : (if i = o + k then V k else pl F (o + (k + 1)) (n - (k + 1)) (fun j => V (k + 1 + j)) i) = pl F (o + k) (n - k) (fun j => V (k + j)) i := by
  unfold pl
  by_cases e : i = o + k
  · subst e
    rw [if_pos rfl, if_pos (by omega)]
    show V k = V (k + (o + k - (o + k)))
    congr 1
    omega
  · rw [if_neg e]
    by_cases h : o + (k + 1) ≤ i ∧ i < o + (k + 1) + (n - (k + 1))
    · rw [if_pos h, if_pos (by omega)]
      show V (k + 1 + (i - (o + (k + 1)))) = V (k + (i - (o + k)))
      congr 1
      omega
    · rw [if_neg h, if_neg (by omega)]
/-- the places from k on are done. -/
def Ts (w W : World) (g N b c o n k : Nat) (F V : Nat → Nat) : Prop := Kp g w W ∧ Rw W g N (pl F (o + k) (n - k) (fun j => V (k + j))) ∧ Cb c b W
section
variable {w W : World} {g N b c o n k : Nat} {F V : Nat → Nat}
theorem Ts.start (hR : Rw w g N F) (hb : Cb c b w) : Ts w w g N b c o n n F V := ⟨Kp.refl _ _, hR.congr (fun i _ => by rw [Nat.sub_self, pl_out (by omega)]), hb⟩
theorem Ts.here (h : Ts w W g N b c o n (k + 1) F V) (hk : k < n) (hoN : o + n ≤ N) : W.cell? ⟨g, o + k, none⟩ = some (.int .u8 (F (o + k) : Nat)) := by
  have := h.2.1.2.2.cell (i := o + k) (by omega)
  rw [pl_out (by omega)] at this
  exact this
theorem Ts.open_ (h : Ts w W g N b c o n k F V) (i : Nat) : W.frozen? ⟨g, i, none⟩ = false := h.2.1.2.2.frozen i
theorem Ts.src {S : Nat → Nat} {a q : Nat} (h : Ts w W g N b c o n (k + 1) F V) (hr : Rdg w g N o n a q F S) (hk : k < n) : S k < 256 ∧ W.cell? ⟨a, q + k, none⟩ = some (.int .u8 (S k : Nat)) :=
  hr W _ h.1 h.2.1 k hk (by rw [pl_out (by omega)])
theorem Ts.step (h : Ts w W g N b c o n (k + 1) F V) (hk : k < n) (hV : V k < 256) (hg : g ≠ b) : Ts w (W.drew.drew.setCell ⟨g, o + k, none⟩ (.int .u8 (V k : Nat))) g N b c o n k F V := by
  refine ⟨(h.1.drew.drew).setCell _ _, ?_, ?_⟩
  · have r : Rw W.drew.drew g N (pl F (o + (k + 1)) (n - (k + 1)) (fun j => V (k + 1 + j))) := ⟨h.2.1.1, h.2.1.2.1, (h.2.1.2.2.drew).drew⟩
    exact (r.set (o + k) (V k) hV).congr (fun i _ => tail_next F V o n k i hk)
  · exact (h.2.2.drew.drew).keep ((Kp.refl g _).setCell _ _) hg
theorem Ts.end_ (h : Ts w W g N b c o n 0 F V) : Kp g w W ∧ Rw W g N (pl F o n V) := ⟨h.1, h.2.1.congr (fun i _ => by rw [Nat.add_zero, Nat.sub_zero]; congr 1; funext j; rw [Nat.zero_add])⟩
end
end Go.Proofs.Ytdeophhcbkahgaa
