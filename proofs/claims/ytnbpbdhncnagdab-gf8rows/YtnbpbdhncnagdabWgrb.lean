import Derived.Test.YtnbpbdhncnagdabWgrc
namespace Go.Proofs.Ytnbpbdhncnagdab
open Go.RowKit Gf2

set_option maxHeartbeats 8000000 in
set_option maxRecDepth 100000 in
theorem rows_many (b off len cap n : Nat) (c : Nat → Nat) (w : World) (hlen : 40 < len) (hln : 40 = n) (hml : len ≤ 2 ^ 63 - 1) (hlc : len ≤ cap) (hbs : b < w.heap.size) (hn0 : 0 < n) (hn1 : n ≤ 40)
    (HC : Hid (∀ i, i < n → c i < 256 ∧ w.cell? ⟨b, off + i, none⟩ = some (.int .u8 (c i : Nat)))) :
    Calls Try.prog 4 #[.slice (some ⟨b, off, none⟩) len cap] w fun e w' => e = .returned (.bool true) ∧ Below w.heap.size w w' := by
  have c1 := fun w => awake2_any w
  have D : decide ((40 : Int) < (len : Int)) = true := by simp; omega
  have D2 : (40 : Int) ≤ (cap : Int) := by omega
  go_enter Try.func4, Try.ntmps4
  go_wp2_with (first | (go_at_call 5; first | ((with_reducible refine (new_any wa).mono ?_); (rintro e wb ⟨rfl, hsb, hu, hbb⟩; have ht2 : Tab8 wb _ := Tab8.of_heap ht (hbb.block _ (Tab8.lt ht)); have hu2 : Tab8 wb _ := hu)) | ((with_reducible refine (new_any _).mono ?_); (rintro e wa ⟨rfl, hsa, ht, hba⟩))) | (go_at_call 6; ((with_reducible refine (c1 _).mono ?_); (rintro e w' ⟨rfl, hw'⟩; have hw' := hw'.symm; subst hw'))) | (go_at_call 15; ((with_reducible refine (trow_two _ _ ht2).mono ?_); (rintro e wc ⟨rfl, hrc, hbc, hsc⟩))) | (go_at_call 18; ((with_reducible refine (refRow_two _).mono ?_); (rintro e wd ⟨rfl, hrd, hbd, hsd⟩; have R : Hid _ := rows_pair hrc hsc hrd hbd (x := w.heap.size + 1 + 1) (y := w.heap.size + 1 + 1 + 1) (by simp [hsa, hsb]) (by simp [hsa, hsb, hsc]); have PF : Hid _ := fun m => pre_facts m hsa hba hsb hbb ht2 hu2 hbc hbd))) | (go_at_call 17; ((with_reducible refine (same_rows (w.heap.size + 1 + 1) (w.heap.size + 1 + 1 + 1) (fun x => fm 285 2 x) _ R.out.1 R.out.2).mono ?_); (rintro e we ⟨rfl, m, hwe⟩; subst hwe))))
  clear hrc hbc hsc hrd hbd hsd hsa hba hsb hbb ht2 hu2 hu ht R c1
  obtain ⟨w1, hw1⟩ : ∃ w1 : World, w1 = wd.drewN m := ⟨_, rfl⟩
  have PF := PF.out m
  rw [← hw1] at PF ⊢
  clear hw1
  clear D D2 hlen hln
  obtain ⟨pt, pu, pb, ps⟩ := PF
  go_loopw [5, 6] (fun av iv wr => ∃ (i : Nat) (B : Nat → Nat), i ≤ n ∧ iv = .int .i64 i ∧ Below w1.heap.size w1 wr ∧ Mk wr w1.heap.size av (3 * i) B c) (fun _ iv _ => n - (intOf iv).toNat)
  case atStart => exact ⟨0, _, Nat.zero_le _, rfl, Below.refl _ _, mk_none _ _ _⟩
  case round =>
    obtain ⟨i, B, hi, rfl, hbr, hM⟩ := hrel
    by_cases hlt : i < n
    · obtain ⟨hci, hcell⟩ := HC.out i hlt
      have iN : ((i : Nat) : Int) < (n : Int) := by omega
      have q0 : wr.cell? ⟨b, off + i, none⟩ = some (.int .u8 (c i : Nat)) := ((pb.trans (hbr.mono (by omega))).cell (p := ⟨b, off + i, none⟩) hbs).trans hcell
      have htr : Tab8 wr w.heap.size := pt.of_heap (hbr.block _ (by omega))
      have hur : Tab8 wr (w.heap.size + 1) := pu.of_heap (hbr.block _ (by omega))
      have htd : Tab8 wr.drew w.heap.size := htr
      have hsr := hbr.size
      have hbd : b < wr.heap.size := by omega
      have HM : Hid (Mk wr w1.heap.size _ (3 * i) B c ∧ Below w1.heap.size w1 wr) := ⟨hM, hbr⟩
      clear hM hbr hcell pt pu htr
      go_wp2
      go_region_law (first
        | (refine step_append_run rfl _ _ 37 rfl rfl rfl hrun ?_)
        | (go_simp; go_wp2_with (first
          | (go_at_call 15; (with_reducible refine (trow_nat w.heap.size (c i) x1 ht1 hci).mono ?_); rintro e x2 ⟨rfl, r2, b2, s2⟩; have p2 := b2.cell (p := ⟨b, off + i, none⟩) (by show b < _; omega); have hu2 : Tab8 x2 (w.heap.size + 1) := (hur.of_heap (b1.block _ (by omega))).of_heap (b2.block _ (by omega)))
          | (go_at_call 15; (with_reducible refine (trow_nat (w.heap.size + 1) (c i) x2 hu2 hci).mono ?_); rintro e x3 ⟨rfl, r3, b3, s3⟩; obtain ⟨g, cp, x5, hrun, hM5, hb5⟩ := append3 HM.out.1 hsr (by omega) b1 s1 r1 b2 s2 r2 b3 s3 r3)
          | (go_at_call 15; (with_reducible refine (trow_nat w.heap.size (c i) wr.drew htd hci).mono ?_); rintro e x1 ⟨rfl, r1', b1', s1'⟩; have b1 := Below.of_drew b1'; have s1 : x1.heap.size = wr.heap.size + 1 := s1'; have r1 : x1.rowIs wr.heap.size 5 256 (fun x => .int .u8 (fm 285 (c i) x : Nat)) := r1'; clear b1' s1' r1'; have p1 := b1.cell (p := ⟨b, off + i, none⟩) hbd; have ht1 : Tab8 x1 w.heap.size := Tab8.of_heap (w := wr) htd (b1.block _ (by omega))))))
      all_goals
        go_wp2
        go_roundw
        case rel =>
          obtain ⟨B', hM'⟩ := hM5
          exact ⟨i + 1, B', by omega, by go_num, HM.out.2.trans (hb5.mono (by omega)), hM'⟩
        case measure => simp [intOf]; omega
    · have hin : n = i := by omega
      subst hin
      obtain ⟨g, cp, rfl, hgl, hgh⟩ := hM.own.form (by omega)
      obtain ⟨wA, hwA⟩ : ∃ wA : World, wA = wr := ⟨_, rfl⟩
      subst hwA
      have hsA := hbr.size
      have cA : ∀ i, i < n → wA.cell? ⟨b, off + i, none⟩ = some (.int .u8 (c i : Nat)) := fun i hi => ((pb.trans (hbr.mono (by omega))).cell (p := ⟨b, off + i, none⟩) hbs).trans (HC.out i hi).2
      have HA : Hid (Mk wA w1.heap.size (.slice (some ⟨g, 0, none⟩) (3 * n) cp) (3 * n) B c ∧ Below w1.heap.size w1 wA ∧ ∀ i, i < n → wA.cell? ⟨b, off + i, none⟩ = some (.int .u8 (c i : Nat))) := ⟨hM, hbr, cA⟩
      clear hM hbr cA
      go_wp2
      go_loopw [7] (fun iv wq => ∃ i : Nat, i ≤ 3 * n ∧ iv = .int .i64 i ∧ Below wA.heap.size wA wq) (fun iv _ => 3 * n - (intOf iv).toNat)
      case atStart => exact ⟨0, Nat.zero_le _, rfl, Below.refl _ _⟩
      case round =>
        obtain ⟨i, hi3, rfl, hbq⟩ := hrel
        by_cases hlt : i < 3 * n
        · obtain ⟨hM, hbr, cA⟩ := HA.out
          have hci := (HC.out (i / 3) (by omega)).1
          have hb0 : b < wA.heap.size := by omega
          have q1 : wr.cell? ⟨b, off + i / 3, none⟩ = some (.int .u8 (c (i / 3) : Nat)) := (hbq.cell (p := ⟨b, off + i / 3, none⟩) hb0).trans (cA (i / 3) (by omega))
          have q2 : wr.cell? ⟨g, i, none⟩ = some (.slice (some ⟨B i, 0, none⟩) 256 256) := (hbq.cell (p := ⟨g, i, none⟩) hgh).trans ((ls_of_mk hM hgh).cell i hlt)
          have hBi := (hM.rows i hlt).lt
          have hrow := (hM.rows i hlt).of_block (hbq.block _ hBi)
          have iN : ((i : Nat) : Int) < ((3 * n : Nat) : Int) := by omega
          have e3 : (i : Int).tdiv 3 = (i : Int) / 3 := Int.tdiv_eq_ediv_of_nonneg (by omega)
          have iN2 : (i : Int) / 3 < (n : Int) := by omega
          have iN4 : (0 : Int) ≤ (i : Int) / 3 := by omega
          have iN3 : ((i : Int) / 3).toNat = i / 3 := by omega
          have eW : IntKind.i64.wrap ((i : Int) / 3) = (i : Int) / 3 := by rw [IntKind.wrap_i64]; omega
          have hsq := hbq.size
          have HB : Hid (Below wA.heap.size wA wr ∧ wr.rowIs (B i) 5 256 (fun x => .int .u8 (fm 285 (c (i / 3)) x : Nat))) := ⟨hbq, hrow⟩
          clear hM hbr cA hbq hrow
          go_wp2
          go_region_held (fun w' => w'.cell? ⟨b, off + i / 3, none⟩ = some (.int .u8 (c (i / 3) : Nat)) ∧ w'.cell? ⟨g, i, none⟩ = some (.slice (some ⟨B i, 0, none⟩) 256 256)) (go_keep) (first
            | (go_at_call 18; (with_reducible refine (refRow_nat (c (i / 3)) wr.drew hci).mono ?_); rintro e x1 ⟨rfl, r1', b1', s1'⟩; have b1 := Below.of_drew b1'; have s1 : x1.heap.size = wr.heap.size + 1 := s1'; have r1 : x1.rowIs wr.heap.size 5 256 (fun x => .int .u8 (fm 285 (c (i / 3)) x : Nat)) := r1'; clear b1' s1' r1'; have p1 := b1.cell (p := ⟨b, off + i / 3, none⟩) (by show b < _; omega); have p2 := b1.cell (p := ⟨g, i, none⟩) (by show g < _; omega))
            | (go_at_call 17; (with_reducible refine (same_rows (B i) wr.heap.size (fun x => fm 285 (c (i / 3)) x) x1 (fun j hj => (b1.cell (p := ⟨B i, j, none⟩) (by show B i < _; omega)).trans (HB.out.2.cell hj)) (fun j hj => r1.cell hj)).mono ?_); rintro e x2 ⟨rfl, m2, rfl⟩))
          all_goals
            go_wp2
            go_roundw
            case rel => exact ⟨i + 1, by omega, by go_num, HB.out.1.trans (below_drewN' (b1.mono (by omega)) _)⟩
            case measure => simp [intOf]; omega
        · have hi3n : 3 * n = i := by omega
          obtain ⟨wB, hwB⟩ : ∃ wB : World, wB = wr := ⟨_, rfl⟩
          subst hwB
          obtain ⟨hM, hbr, cA⟩ := HA.out
          have hMB := hM.below hbq
          have hsq := hbq.size
          have LB := ls_of_mk hMB (by omega)
          have cap1 := apart_any w1.heap.size g (3 * n) cp B _ wB (by omega) (by omega) LB hMB.rows
          have HB : Hid (Below w1.heap.size w1 wB ∧ ∀ i, i < n → wB.cell? ⟨b, off + i, none⟩ = some (.int .u8 (c i : Nat))) :=
            ⟨hbr.trans (hbq.mono (by omega)), fun i hi => (hbq.cell (p := ⟨b, off + i, none⟩) (by show b < _; omega)).trans (cA i hi)⟩
          clear hM hbr cA hbq hMB LB
          subst hi3n
          go_wp2_with (go_at_call 19; ((with_reducible refine (cap1).mono ?_); (rintro e wC ⟨rfl, hbC⟩)))
          have pc : Below w1.heap.size w1 wC := HB.out.1.trans hbC
          clear cap1 hbC
          go_loopw [8] (fun iv wq => ∃ i : Nat, i ≤ n ∧ iv = .int .i64 i ∧ Below w1.heap.size w1 wq) (fun iv _ => n - (intOf iv).toNat)
          case atStart => exact ⟨0, Nat.zero_le _, rfl, pc⟩
          case round =>
            obtain ⟨i, hi4, rfl, hbq⟩ := hrel
            by_cases hlt : i < n
            · obtain ⟨hci, hcell⟩ := HC.out i hlt
              have iN : ((i : Nat) : Int) < (n : Int) := by omega
              have q0 : wr.cell? ⟨b, off + i, none⟩ = some (.int .u8 (c i : Nat)) := ((pb.trans (hbq.mono (by omega))).cell (p := ⟨b, off + i, none⟩) hbs).trans hcell
              have htr : Tab8 wr w.heap.size := pt.of_heap (hbq.block _ (by omega))
              have htd : Tab8 wr.drew w.heap.size := htr
              have hsr := hbq.size
              have l3 := fm8_lt (c i) 3
              have HQ : Hid (Below w1.heap.size w1 wr) := hbq
              clear hbq hcell htr pc
              go_wp2
              go_region_held (fun w' => w'.cell? ⟨b, off + i, none⟩ = some (.int .u8 (c i : Nat))) (go_keep) (first
                | (go_at_call 15; (with_reducible refine (trow_nat w.heap.size (c i) wr.drew htd hci).mono ?_); rintro e x1 ⟨rfl, r1', b1', s1'⟩; have b1 := Below.of_drew b1'; have s1 : x1.heap.size = wr.heap.size + 1 := s1'; have r1 : x1.rowIs wr.heap.size 5 256 (fun x => .int .u8 (fm 285 (c i) x : Nat)) := r1'; clear b1' s1' r1'; have p1 := b1.cell (p := ⟨b, off + i, none⟩) (by show b < _; omega); have ht1 : Tab8 x1 w.heap.size := Tab8.of_heap (w := wr) htd (b1.block _ (by omega)))
                | (go_at_call 18; (with_reducible refine (refRow_nat (c i) x1 hci).mono ?_); rintro e x2 ⟨rfl, r2, b2, s2⟩; have p2 := b2.cell (p := ⟨b, off + i, none⟩) (by show b < _; omega); have R2 : Hid _ := rows_pair r1 s1 r2 b2 (x := wr.heap.size) (y := wr.heap.size + 1) rfl s1; have ht2 : Tab8 x2 w.heap.size := ht1.of_heap (b2.block _ (by omega)); have HX : Hid (Below w1.heap.size w1 x2) := (HQ.out.trans (b1.mono (by omega))).trans (b2.mono (by omega)); clear r1 r2)
                | (go_at_call 17; (with_reducible refine (same_rows wr.heap.size (wr.heap.size + 1) (fun x => fm 285 (c i) x) x2 R2.out.1 R2.out.2).mono ?_); rintro e x3 ⟨rfl, m2, rfl⟩)
                | (go_at_call 7; (with_reducible refine (tmul3 w.heap.size (c i) _ (ht2.drewN _) hci).mono ?_); rintro e x4 ⟨rfl, m3, rfl⟩)
                | (go_at_call 20; (with_reducible refine (refMul3 (c i) _ hci).mono ?_); rintro e x5 ⟨rfl, rfl⟩))
              all_goals
                go_wp2
                go_roundw
                case rel => exact ⟨i + 1, by omega, by go_num, below_drewN' HX.out _⟩
                case measure => simp [intOf]; omega
            · have hin : n = i := by omega
              subst hin
              go_wp2
              go_ret
              exact ⟨rfl, pb.trans (hbq.mono (by omega))⟩
end Go.Proofs.Ytnbpbdhncnagdab
