/-
  Package tape: the walk of Sum.
-/
import Derived.Test.YtibakfhalabdaaaLine
namespace Go.Proofs.Ytibakfhalabdaaa
open Go.RowKit

/-- One line of a slice, as it lies there. -/
theorem Lies.line {w : World} {a : Option Addr} {n cap : Nat} {xs : List LineT} (h : Lies 7 LineT.f w (.slice a n cap) xs) (k : Nat) (hk : k < n) :
    ∃ b off x, a = some ⟨b, off, none⟩ ∧ xs[k]? = some x ∧ x ∈ xs ∧ w.cell? ⟨b, off + k * 7, none⟩ = some (.int .i64 x.id) ∧ w.cell? ⟨b, off + k * 7 + 1, none⟩ = some (.int .i64 x.pr) ∧ w.cell? ⟨b, off + k * 7 + 2, none⟩ = some (.int .i64 x.pp) ∧ w.cell? ⟨b, off + k * 7 + 3, none⟩ = some (.int .i64 x.it) ∧ w.cell? ⟨b, off + k * 7 + 4, none⟩ = some (.int .i64 x.rc) ∧ w.cell? ⟨b, off + k * 7 + 5, none⟩ = some (.int .i64 x.lt) ∧ w.cell? ⟨b, off + k * 7 + 6, none⟩ = some (.bool x.df) := by
  obtain ⟨b, off, rfl, hc⟩ := h.place (by omega)
  have hl := h.len
  have hx : xs[k]? = some (xs[k]'(by omega)) := List.getElem?_eq_getElem (by omega)
  have c := hc k _ hx
  have c0 := c 0 _ rfl
  rw [Nat.add_zero] at c0
  exact ⟨b, off, _, rfl, hx, List.getElem_mem _, c0, c 1 _ rfl, c 2 _ rfl, c 3 _ rfl, c 4 _ rfl, c 5 _ rfl, c 6 _ rfl⟩

set_option maxHeartbeats 2000000 in
theorem tsum_any (v : Value) (xs : List LineT) (w : World) (h : Lies 7 LineT.f w v xs) (hA : ∀ x ∈ xs, x.Am) (hl : xs.length ≤ 1000) :
    Calls Try.prog 7 #[v] w fun e w' => e = .returned (sumT xs).v ∧ Below w.heap.size w w' := by
  obtain ⟨V, hV⟩ : ∃ V, (sumT xs).v = V := ⟨_, rfl⟩
  rw [hV]
  have HV : Hid ((sumT xs).v = V) := hV
  clear hV
  have HL := h
  obtain ⟨a, cap, rfl, _, hcm, _, _⟩ := h
  obtain ⟨n, hn⟩ : ∃ n, xs.length = n := ⟨_, rfl⟩
  have hlen := HL.len
  rw [hn] at HL hl hlen ⊢
  have H2 : Hid (Lies 7 LineT.f w (.slice a n cap) xs) := HL
  have H3 : Hid (∀ x ∈ xs, x.Am) := hA
  have H4 : Hid (xs.take n = xs) := by show _ = _; rw [← hn]; exact List.take_length
  clear HL hA hcm hlen hn
  go_enter Try.func7, Try.ntmps7
  go_upto_region 2 with fail
  refine wp_letter (fun wx => Below w.heap.size w wx ∧ ∃ g h, w.heap.size = g ∧ g + 1 = h ∧ Blk wx g 26 TotT.zero.f ∧ Blk wx h 26 TotT.zero.f) ⟨below_alloc (below_alloc (Below.refl _ _) _) _, _, _, rfl, rfl, (Blk.fresh _ _ _).alloc _, Blk.fresh2 _ _ _ _⟩ ?_
  rintro W ⟨hW, g, h, hg, hh, k1, k2⟩
  have hh2 : w.heap.size ≤ h := by omega
  have hgh : g ≠ h := by omega
  rw [hg, hh]
  go_wp2
  go_loopw [8] (fun i wr => ∃ (k : Nat) (S : TotT), k ≤ n ∧ i = .int .i64 k ∧ sumT (xs.take k) = S ∧ Below w.heap.size w wr ∧ Blk wr g 26 TotT.zero.f ∧ Blk wr h 26 S.f) (fun i _ => n - (intOf i).toNat)
  case atStart => exact ⟨0, _, Nat.zero_le _, rfl, rfl, hW, k1, k2⟩
  case round =>
  obtain ⟨k, S, hk, rfl, eS, hB, b1, b2⟩ := hrel
  by_cases hlt : k < n
  · obtain ⟨b, off, x, rfl, hx, hmem, c0, c1, c2, c3, c4, c5, c6⟩ := H2.out.line k hlt
    replace c0 := cell_keep hB c0
    replace c1 := cell_keep hB c1
    replace c2 := cell_keep hB c2
    replace c3 := cell_keep hB c3
    replace c4 := cell_keep hB c4
    replace c5 := cell_keep hB c5
    replace c6 := cell_keep hB c6
    have n1 := sumT_next xs k x hx
    rw [eS] at n1
    have N1 : Hid (sumT (xs.take (k + 1)) = S.plus x.tot) := n1
    have bS : Hid (S.Bd (1000 * 1099511627776)) := by
      rw [← eS]
      exact sumT_bd (fun y hy => H3.out y (List.mem_of_mem_take hy)) 1000 (by rw [List.length_take]; omega)
    have bX : Hid (x.tot.Bd (1 * 1099511627776)) := by
      have := sumT_bd (xs := [x]) (fun y hy => by simp at hy; subst hy; exact H3.out _ hmem) 1 (by simp)
      rw [sumT_one] at this
      exact this
    clear n1 eS hx hmem
    go_upto_region 5 with fail
    refine wp_letter (fun wx => Below w.heap.size w wx ∧ Blk wx g 26 TotT.zero.f ∧ Blk wx h 26 S.f ∧ ∃ Q, wr.heap.size = Q ∧ h < Q ∧ Blk wx Q 23 x.f) ⟨below_alloc hB _, b1.alloc _, b2.alloc _, _, rfl, b2.lt, Blk.fresh _ _ _⟩ ?_
    clear hB b1 b2 c0 c1 c2 c3 c4 c5 c6
    rintro X ⟨hX, b1, b2, Q, eQ, hQ, b3⟩
    rw [eQ]
    clear eQ
    have x0 := b3.cell 0 _ rfl; have x1 := b3.cell 1 _ rfl; have x2 := b3.cell 2 _ rfl; have x3 := b3.cell 3 _ rfl; have x4 := b3.cell 4 _ rfl; have x5 := b3.cell 5 _ rfl; have x6 := b3.cell 6 _ rfl
    have y0 := b2.cell 0 _ rfl; have y1 := b2.cell 1 _ rfl; have y2 := b2.cell 2 _ rfl; have y3 := b2.cell 3 _ rfl; have y4 := b2.cell 4 _ rfl
    go_region_with (first
      | (go_at_call 13; refine (totalOf_any x _).mono ?_; rintro e w1 ⟨rfl, d1⟩; replace y0 := cell_keep d1 y0; replace y1 := cell_keep d1 y1; replace y2 := cell_keep d1 y2; replace y3 := cell_keep d1 y3; replace y4 := cell_keep d1 y4)
      | (go_at_call 12; refine (tplus_any S x.tot _ _ bS.out bX.out (by omega) _).mono ?_; rintro e w2 ⟨rfl, d2⟩; have B2 := (b2.drew.then d1).then d2; have B1 := (b1.drew.then d1).then d2; have f0 := B2.frozen 0; have f1 := B2.frozen 1; have f2 := B2.frozen 2; have f3 := B2.frozen 3; have f4 := B2.frozen 4; have z0 := B2.cell 0 _ rfl; have z1 := B2.cell 1 _ rfl; have z2 := B2.cell 2 _ rfl; have z3 := B2.cell 3 _ rfl; have z4 := B2.cell 4 _ rfl; unfold TotT.v))
    all_goals
      go_wp2
      go_roundw
      case rel => exact ⟨k + 1, _, by omega, by go_num, N1.out, ((((((below_then (below_then hX.drew d1) d2).setCell hh2 _).setCell hh2 _).setCell hh2 _).setCell hh2 _).setCell hh2 _), B1.set_other _ _ hgh _ |>.set_other _ _ hgh _ |>.set_other _ _ hgh _ |>.set_other _ _ hgh _ |>.set_other _ _ hgh _, ((((B2.set 0 _).set 1 _).set 2 _).set 3 _).set 4 _⟩
      case measure => simp [intOf]; omega
  · obtain rfl : k = n := by omega
    rw [H4.out] at eS
    subst eS
    have y0 := b2.cell 0 _ rfl; have y1 := b2.cell 1 _ rfl; have y2 := b2.cell 2 _ rfl; have y3 := b2.cell 3 _ rfl; have y4 := b2.cell 4 _ rfl
    have f0 := b1.frozen 0; have f1 := b1.frozen 1; have f2 := b1.frozen 2; have f3 := b1.frozen 3; have f4 := b1.frozen 4
    have z0 := b1.cell 0 _ rfl; have z1 := b1.cell 1 _ rfl; have z2 := b1.cell 2 _ rfl; have z3 := b1.cell 3 _ rfl; have z4 := b1.cell 4 _ rfl
    go_wp2
    refine post_letter (fun wx => Below w.heap.size w wx ∧ Blk wx g 26 (sumT xs).f) ⟨((((hB.setCell (Nat.le_of_eq hg) _).setCell (Nat.le_of_eq hg) _).setCell (Nat.le_of_eq hg) _).setCell (Nat.le_of_eq hg) _).setCell (Nat.le_of_eq hg) _, ((((b1.set 0 _).set 1 _).set 2 _).set 3 _).set 4 _⟩ ?_
    clear hB b1 b2 y0 y1 y2 y3 y4 f0 f1 f2 f3 f4 z0 z1 z2 z3 z4
    rintro X ⟨hX, b3⟩
    have y0 := b3.cell 0 _ rfl; have y1 := b3.cell 1 _ rfl; have y2 := b3.cell 2 _ rfl; have y3 := b3.cell 3 _ rfl; have y4 := b3.cell 4 _ rfl
    rw [← HV.out]
    exact bodyPost_ret (v := (sumT xs).v) (by simp [results, Try.results7, go_sem, y0, y1, y2, y3, y4, TotT.v]) rfl ⟨rfl, hX⟩
end Go.Proofs.Ytibakfhalabdaaa
