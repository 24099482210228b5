/-
  The document's own Buckets and Balance (cascaderef9).
-/
import Derived.Test.YtbppaomenhdjeaaLateP
import Derived.Test.YtbppaomenhdjeaaLiesNew
namespace Go.Proofs.Ytbppaomenhdjeaa
open Go.RowKit

set_option maxHeartbeats 2000000 in
theorem refBuckets_any (v : Value) (xs : List LoanP) (w : World) (h : Lies 5 LoanP.f w v xs) (hA : ∀ x ∈ xs, 0 ≤ x.bal ∧ x.bal ≤ 1099511627776) (hT : ∀ x ∈ xs, 0 ≤ x.late) (hl : xs.length ≤ 1000) :
    Calls Try.prog 12 #[v] w fun e w' => e = .returned (bkts xs).v ∧ Below w.heap.size w w' := by
  obtain ⟨V, hV⟩ : ∃ V, (bkts xs).v = V := ⟨_, rfl⟩
  rw [hV]
  have HV : Hid ((bkts xs).v = V) := hV
  clear hV
  have HL := h
  obtain ⟨a, cap, rfl, _, hcm, _, _⟩ := h
  obtain ⟨n, hn⟩ : ∃ n, xs.length = n := ⟨_, rfl⟩
  have hlen := HL.len
  rw [hn] at HL hl hlen ⊢
  have H2 : Hid (Lies 5 LoanP.f w (.slice a n cap) xs) := HL
  have H3 : Hid (∀ x ∈ xs, 0 ≤ x.bal ∧ x.bal ≤ 1099511627776) := hA
  have H5 : Hid (∀ x ∈ xs, 0 ≤ x.late) := hT
  have H4 : Hid (xs.take n = xs) := by show _ = _; rw [← hn]; exact List.take_length
  clear HL hA hT hcm hlen hn
  go_enter Try.func12, Try.ntmps12
  go_upto_region 2 with fail
  refine wp_letter (fun wx => Below w.heap.size w wx ∧ ∃ g h, w.heap.size = g ∧ g + 1 = h ∧ Blk wx g 23 BkT.zero.f ∧ Blk wx h 23 BkT.zero.f) ⟨below_alloc (below_alloc (Below.refl _ _) _) _, _, _, rfl, rfl, (Blk.fresh _ _ _).alloc _, Blk.fresh2 _ _ _ _⟩ ?_
  rintro W ⟨hW, g, h, hg, hh, k1, k2⟩
  have hh2 : w.heap.size ≤ h := by omega
  have hgh : g ≠ h := by omega
  rw [hg, hh]
  go_wp2
  go_loopw [8] (fun i wr => ∃ (k : Nat) (S : BkT), k ≤ n ∧ i = .int .i64 k ∧ bkts (xs.take k) = S ∧ Below w.heap.size w wr ∧ Blk wr g 23 BkT.zero.f ∧ Blk wr h 23 S.f) (fun i _ => n - (intOf i).toNat)
  case atStart => exact ⟨0, _, Nat.zero_le _, rfl, rfl, hW, k1, k2⟩
  case round =>
  obtain ⟨k, S, hk, rfl, eS, hB, b1, b2⟩ := hrel
  by_cases hlt : k < n
  · obtain ⟨b, off, x, rfl, hx, hmem, c0, c1, c2, c3, c4⟩ := H2.out.loan k hlt
    replace c0 := cell_keep hB c0
    replace c1 := cell_keep hB c1
    replace c2 := cell_keep hB c2
    replace c3 := cell_keep hB c3
    replace c4 := cell_keep hB c4
    have n1 := bkts_next xs k x hx
    rw [eS] at n1
    have N1 : Hid (bkts (xs.take (k + 1)) = S.plus x.bk) := n1
    have bS := bkts_bd (xs := xs.take k) (fun y hy => H3.out y (List.mem_of_mem_take hy)) 1000 (by rw [List.length_take]; omega) (by omega)
    rw [eS] at bS
    obtain ⟨sa, sb, sc, sd⟩ := S
    obtain ⟨s1, s2, s3, s4, s5, s6, s7, s8⟩ := bS
    simp only at s1 s2 s3 s4 s5 s6 s7 s8
    have bX := H3.out x hmem
    have bT := H5.out x hmem
    obtain ⟨id, bal, lost, late, over⟩ := x
    simp only at bX bT c0 c1 c2 c3 c4
    clear n1 eS hx hmem
    go_upto_region 6 with fail
    refine wp_letter (fun wx => Below w.heap.size w wx ∧ Blk wx g 23 BkT.zero.f ∧ Blk wx h 23 (BkT.f ⟨sa, sb, sc, sd⟩) ∧ ∃ Q, wr.heap.size = Q ∧ h < Q ∧ Blk wx Q 37 (LoanP.f ⟨id, bal, lost, late, over⟩)) ⟨below_alloc hB _, b1.alloc _, b2.alloc _, _, rfl, b2.lt, Blk.fresh _ _ _⟩ ?_
    clear hB b1 b2 c0 c1 c2 c3 c4
    rintro X ⟨hX, b1, b2, Q, eQ, hQ, b3⟩
    rw [eQ]
    clear eQ
    have x1 := b3.cell 1 _ rfl; have x3 := b3.cell 3 _ rfl
    have y0 := b2.cell 0 _ rfl; have y1 := b2.cell 1 _ rfl; have y2 := b2.cell 2 _ rfl; have y3 := b2.cell 3 _ rfl
    have f0 := b2.frozen 0; have f1 := b2.frozen 1; have f2 := b2.frozen 2; have f3 := b2.frozen 3
    have w1 := wrap_in (sa + bal) (by omega) (by omega)
    have w2 := wrap_in (sb + bal) (by omega) (by omega)
    have w3 := wrap_in (sc + bal) (by omega) (by omega)
    have w4 := wrap_in (sd + bal) (by omega) (by omega)
    rcases bk_cases2 id bal lost late over sa sb sc sd bT with ⟨q1, ep⟩ | ⟨q1, q2, ep⟩ | ⟨q1, q2, q3, ep⟩ | ⟨q1, q2, q3, ep⟩
    all_goals
      have EP : Hid (bkts (xs.take (k + 1)) = _) := N1.out.trans ep
      clear ep N1
      go_wp2
      go_roundw
      case rel => exact ⟨k + 1, _, by omega, by go_num, EP.out, hX.setCell hh2 _, b1.set_other _ _ hgh _, b2.set _ _⟩
      case measure => simp [intOf]; omega
  · obtain rfl : k = n := by omega
    rw [H4.out] at eS
    subst eS
    have y0 := b2.cell 0 _ rfl; have y1 := b2.cell 1 _ rfl; have y2 := b2.cell 2 _ rfl; have y3 := b2.cell 3 _ rfl
    have f0 := b1.frozen 0; have f1 := b1.frozen 1; have f2 := b1.frozen 2; have f3 := b1.frozen 3
    have z0 := b1.cell 0 _ rfl; have z1 := b1.cell 1 _ rfl; have z2 := b1.cell 2 _ rfl; have z3 := b1.cell 3 _ rfl
    go_wp2
    refine post_letter (fun wx => Below w.heap.size w wx ∧ Blk wx g 23 (bkts xs).f) ⟨(((hB.setCell (Nat.le_of_eq hg) _).setCell (Nat.le_of_eq hg) _).setCell (Nat.le_of_eq hg) _).setCell (Nat.le_of_eq hg) _, (((b1.set 0 _).set 1 _).set 2 _).set 3 _⟩ ?_
    clear hB b1 b2 y0 y1 y2 y3 f0 f1 f2 f3 z0 z1 z2 z3
    rintro X ⟨hX, b3⟩
    have y0 := b3.cell 0 _ rfl; have y1 := b3.cell 1 _ rfl; have y2 := b3.cell 2 _ rfl; have y3 := b3.cell 3 _ rfl
    rw [← HV.out]
    exact bodyPost_ret (v := (bkts xs).v) (by simp [results, Try.results12, go_sem, y0, y1, y2, y3, BkT.v]) rfl ⟨rfl, hX⟩
end Go.Proofs.Ytbppaomenhdjeaa
