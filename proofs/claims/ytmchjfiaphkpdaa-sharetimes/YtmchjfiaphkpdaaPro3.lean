/-
  Package share: the walk of Pro by parts; Pro whole.
-/
import Derived.Test.YtmchjfiaphkpdaaPro2
namespace Go.Proofs.Ytmchjfiaphkpdaa
open Go.RowKit Go.Shelf Go.Lib Go.Sort

theorem own_cut_block {w : World} {base : Nat} {e : TypeId} {g n : Nat} {xs : List Value} (h : w.ownsRow base e 2 (.slice (some ⟨g, 0, none⟩) n n) n xs) : ∃ X : Array Value, w.heap[g]? = some (.cells X e (0, 0)) ∧ X.size = n * 2 := by
  rcases h.2 with ⟨h', _⟩ | ⟨g', cap, cur, e', hb, hh, _, _, hs, ht⟩
  · simp at h'
  · simp only [Value.slice.injEq, Option.some.injEq, Addr.mk.injEq] at e'
    obtain ⟨⟨rfl, _⟩, _, rfl⟩ := e'
    exact ⟨cur, hh, hs⟩

theorem partL_next (n s : Int) (zs : List Int) (k : Nat) (h : k < zs.length) : partL n s (zs.take (k + 1)) = partL n s (zs.take k) ++ [n * zs.getD k 0 / s] := by
  rw [take_next zs k h]
  simp [partL]

theorem mem_le_sum : ∀ (l : List Int), (∀ x ∈ l, 0 ≤ x) → ∀ x ∈ l, x ≤ l.sum
  | [], _, x, hx => by simp at hx
  | a :: r, h, x, hx => by
    have h0 : ∀ x ∈ r, 0 ≤ x := fun y hy => h y (by simp [hy])
    have ha := h a (by simp)
    have hs : 0 ≤ r.sum := by
      have := sum_pos r h0
      exact this
    rw [List.sum_cons]
    rcases List.mem_cons.mp hx with rfl | hx
    · omega
    · have := mem_le_sum r h0 x hx
      omega
where sum_pos : ∀ (l : List Int), (∀ x ∈ l, 0 ≤ x) → 0 ≤ l.sum
  | [], _ => by simp
  | a :: r, h => by
    have := sum_pos r (fun y hy => h y (by simp [hy]))
    have ha := h a (by simp)
    rw [List.sum_cons]
    omega

set_option maxHeartbeats 2000000 in
theorem pro_part (n s : Int) (v : Value) (zs : List Int) (w : World) (h : Reads w v zs) (hb : zs.length ≤ 1000000) (hz : sumFrom zs 0 = some s) (n0 : 0 < n) (n1 : n < s) :
    Calls Try.prog 11 #[.int .i64 n, v] w fun e w' => e = .returned (.slice (some ⟨w.heap.size, 0, none⟩) zs.length zs.length) ∧
      w'.ownsRow w.heap.size 3 1 (.slice (some ⟨w.heap.size, 0, none⟩) zs.length zs.length) zs.length ((bump (partL n s zs) (lostL n s zs) (leftP n s zs).toNat).map (Value.int .i64)) ∧ Below w.heap.size w w' := by
  obtain ⟨i0, hi, hz0, hz1, hz2⟩ := info_parts Try.info_ints
  obtain ⟨j0, hj, hy0, hy1, hy2⟩ := info_parts Try.info_cuts
  obtain ⟨a, cap, rfl, hcap, hm, hzc⟩ := id h
  obtain ⟨l, hl⟩ : ∃ l, zs.length = l := ⟨_, rfl⟩
  have HR : Hid (∀ w1, Below w.heap.size w w1 → Calls Try.prog 18 #[.slice a l cap] w1 fun e w' => e = .returned (.tuple #[.int .i64 s, .bool true]) ∧ w' = w1) := fun w1 b => by
    have := sum_any _ zs w1 (h.below b)
    rw [hz, hl] at this
    exact this
  obtain ⟨hs1, hs2, s1⟩ := sumFrom_some zs 0 s hz (Int.le_refl _) (by decide)
  have hss : s = zs.sum := by omega
  have HX : Hid (∀ k, k < l → partL n s (zs.take (k + 1)) = partL n s (zs.take k) ++ [n * zs.getD k 0 / s] ∧ 0 ≤ zs.getD k 0 ∧ zs.getD k 0 ≤ s ∧ (lostL n s zs).getD k 0 = n * zs.getD k 0 % s) := fun k hk => by
    have hk' : k < zs.length := by omega
    have hmem : zs.getD k 0 ∈ zs := by simp [List.getD_eq_getElem?_getD, hk']
    refine ⟨partL_next n s zs k hk', hs2 _ hmem, ?_, by simp [lostL, hk']⟩
    rw [hss]
    exact mem_le_sum zs hs2 _ hmem
  have HLen : Hid (∀ k, k ≤ l → (partL n s (zs.take k)).length = k) := fun k hk => by simp [partL]; omega
  have HT : Hid (zs.take l = zs) := List.take_of_length_le (by omega)
  have HLeft : Hid (∀ k, k ≤ l → 0 ≤ n - (partL n s (zs.take k)).sum ∧ n - (partL n s (zs.take k)).sum ≤ n) := fun k hk => by
    have hp : ∀ x ∈ partL n s zs, 0 ≤ x := by
      intro x hx
      simp only [partL, List.mem_map] at hx
      obtain ⟨c, hc, rfl⟩ := hx
      exact Int.ediv_nonneg (Int.mul_nonneg (by omega) (hs2 c hc)) (by omega)
    have e : partL n s zs = partL n s (zs.take k) ++ partL n s (zs.drop k) := by
      unfold partL
      rw [← List.map_append, List.take_append_drop]
    have q1 : 0 ≤ (partL n s (zs.take k)).sum := mem_le_sum.sum_pos _ (fun x hx => hp x (by rw [e]; simp [hx]))
    have q2 : 0 ≤ (partL n s (zs.drop k)).sum := mem_le_sum.sum_pos _ (fun x hx => hp x (by rw [e]; simp [hx]))
    have q3 := (left_range n s zs hss (by omega)).1
    unfold leftP at q3
    rw [e, List.sum_append] at q3
    omega
  have HE : Hid (leftP n s zs = n - (partL n s zs).sum ∧ 0 ≤ leftP n s zs ∧ (leftP n s zs).toNat ≤ l) := by
    have q3 := left_range n s zs hss (by omega)
    have hc : (lostL n s zs).countP (fun q => decide (0 < q)) ≤ zs.length := by
      have := List.countP_le_length (p := fun q => decide (0 < q)) (l := lostL n s zs)
      simpa [lostL] using this
    exact ⟨rfl, q3.1, by omega⟩
  have HP : Hid ((partL n s zs).length = l ∧ (lostL n s zs).length = l ∧ ∀ x ∈ partL n s zs, 0 ≤ x ∧ x ≤ 1152921504606846976) := by
    refine ⟨by simpa [partL] using hl, by simpa [lostL] using hl, ?_⟩
    intro x hx
    simp only [partL, List.mem_map] at hx
    obtain ⟨c, hc, rfl⟩ := hx
    have c1 : c ≤ s := by rw [hss]; exact mem_le_sum zs hs2 c hc
    have := md_part n c s n0 n1 (hs2 c hc) c1 s1
    omega
  have HC : Hid (∀ k, k < l → ∃ b off, a = some ⟨b, off, none⟩ ∧ w.cell? ⟨b, off + k, none⟩ = some (.int .i64 (zs.getD k 0))) := fun k hk => by
    rcases hzc with rfl | ⟨b, off, rfl, hc⟩
    · simp at hl; omega
    · exact ⟨b, off, rfl, hc k (by omega)⟩
  rw [hl] at h hb hcap ⊢
  clear hl hm hz hss hs2 hs1 hzc h
  go_enter Try.func11, Try.ntmps11
  go_upto_region 2 with (at_make; refine wpList_make_full _ rfl _ _ 23 rfl w.heap.size 3 i0 (.int .i64 0) 1 Try.underlying23 hi hz0 hz1 .i64 .i64 _ _ l rfl rfl (by simp) (by simp) (by rw [hz2]; omega) (by unfold maxLen; omega) (Nat.le_refl _) ?_; intro w1 o1 g1)
  have b1 : Below w.heap.size w w1 := below_grown (Below.refl _ _) g1 (fun k hk => by simp at hk)
  have hs := HR.out w1 b1
  rw [made_zeros, ← fillAt_nil] at o1
  have HI1 : Hid (IntBlk w1 w.heap.size (fillAt [] l)) := (own_block o1).1
  have HB1 : Hid (Below w.heap.size w w1) := b1
  clear o1 g1 b1 HR
  go_upto_region 8 with (go_at_call 18; refine hs.mono ?_; rintro e w' ⟨rfl, hw'⟩; have hw' := hw'.symm; subst hw')
  clear hs
  go_upto_region 9 with (at_make; refine wpList_make_full _ rfl _ _ 37 rfl w1.heap.size 40 j0 (.agg #[.int .i64 0, .int .i64 0]) 2 Try.underlying37 hj hy0 hy1 .i64 .i64 _ _ l rfl rfl (by simp) (by simp) (by rw [hy2]; omega) (by unfold maxLen; omega) (Nat.le_refl _) ?_; intro w2 o2 g2)
  have b2 : Below w1.heap.size w1 w2 := below_grown (Below.refl _ _) g2 (fun k hk => by simp at hk)
  obtain ⟨gc, hgc⟩ : ∃ gc, w1.heap.size = gc := ⟨_, rfl⟩
  have hlt1 : w.heap.size < gc := by rw [← hgc]; exact HI1.out.lt
  have HI2 : Hid (IntBlk w2 w.heap.size (fillAt [] l)) := HI1.out.of_heap (b2.block _ (by omega))
  have HC2 : Hid (CutBlk w2 gc l 0 (lostL n s zs)) := by
    rw [hgc] at o2
    obtain ⟨X, e1, e2⟩ := own_cut_block o2
    exact ⟨X, e1, e2, fun i hi => by omega⟩
  have HB2 : Hid (Below w.heap.size w w2) := below_then HB1.out b2
  rw [hgc]
  clear b2 o2 g2 HI1 HB1 hgc hi hz0 hz1 hz2 hj hy0 hy1 hy2
  go_wp2
  go_loopw [9, 42] (fun t i wr => ∃ k : Nat, k ≤ l ∧ i = .int .i64 k ∧ t = .int .i64 (n - (partL n s (zs.take k)).sum) ∧ IntBlk wr w.heap.size (fillAt (partL n s (zs.take k)) l) ∧ CutBlk wr gc l k (lostL n s zs) ∧ Below w.heap.size w wr) (fun _ i _ => l - (intOf i).toNat)
  case atStart => exact ⟨0, Nat.zero_le _, rfl, by simp [partL], HI2.out, HC2.out, HB2.out⟩
  case round =>
    obtain ⟨k, hk, rfl, rfl, hI, hCB, hB⟩ := hrel
    by_cases hlt : k < l
    · obtain ⟨b, off, rfl, hcell⟩ := HC.out k hlt
      have hcx : wr.cell? ⟨b, off + k, none⟩ = some (.int .i64 (zs.getD k 0)) := (hB.cell (cell_block hcell)).trans hcell
      obtain ⟨x1, x2, x3, x4⟩ := HX.out k hlt
      obtain ⟨y1, y2⟩ := HLeft.out k hk
      have y3 := (HLeft.out (k + 1) (by omega)).1
      rw [x1, List.sum_append] at y3
      have hlen := HLen.out k hk
      generalize zs.getD k 0 = c at *
      obtain ⟨m1, m2, m3⟩ := md_part n c s n0 n1 x2 x3 s1
      have hq : n * c % s = n * c - n * c / s * s := by
        have := Int.mul_ediv_add_emod (n * c) s
        rw [Int.mul_comm (n * c / s) s]
        omega
      have q0 : 0 ≤ n * c % s := Int.emod_nonneg _ (by omega)
      have q1 : n * c % s < s := Int.emod_lt_of_pos _ (by omega)
      have HWr : Hid (IntKind.i64.wrap (IntKind.i64.wrap (n * c) - IntKind.i64.wrap (n * c / s * s)) = n * c % s) := by
        show _ = _
        rw [wrap_lost n c s _ (by omega) (by omega), hq]
      have HM : Hid (∀ wq : World, Calls Try.prog 20 #[.int .i64 n, .int .i64 c, .int .i64 s, .int .i64 0] wq fun e w' => e = .returned (.tuple #[.int .i64 (n * c / s), .bool (mdB n c s 0)]) ∧ Below wq.heap.size wq w') := fun wq => by
        have := mulDiv_any n c s 0 wq
        rw [m1] at this
        exact this
      obtain ⟨P, hP⟩ : ∃ P, n * c / s = P := ⟨_, rfl⟩
      obtain ⟨q, hQ⟩ : ∃ q, n * c % s = q := ⟨_, rfl⟩
      rw [hP] at m2 m3 HWr HM x1 y3
      rw [hQ] at q0 q1 x4 HWr
      obtain ⟨M, hM⟩ : ∃ M, n - (partL n s (zs.take k)).sum = M := ⟨_, rfl⟩
      rw [hM] at y1 y2 ⊢
      simp only [List.sum_cons, List.sum_nil] at y3
      have y4 : P ≤ M := by omega
      have HSum : Hid (M - P = n - (partL n s (zs.take (k + 1))).sum) := by
        show _ = _
        rw [x1, List.sum_append]
        simp only [List.sum_cons, List.sum_nil]
        omega
      have hil := hI.lt
      have hcl := hCB.lt
      have HI : Hid (IntBlk wr w.heap.size (fillAt (partL n s (zs.take k)) l)) := hI
      have HCB : Hid (CutBlk wr gc l k (lostL n s zs)) := hCB
      have HB : Hid (Below w.heap.size w wr) := hB
      have HX1 : Hid (fillAt (partL n s (zs.take k) ++ [P]) l = fillAt (partL n s (zs.take (k + 1))) l) := by show _ = _; rw [x1]
      have HX4 : Hid ((lostL n s zs).getD k 0 = q) := x4
      have HLe : Hid ((partL n s (zs.take k)).length = k) := hlen
      generalize mdB n c s 0 = mb at HM
      clear hI hCB hB hP hQ hM hq m1 x1 y3 x4 hcell HX HLeft HLen HI2 HC2 HB2 hlen
      go_upto_region 14 with (go_at_call 20; refine (HM.out _).mono ?_; rintro e wn ⟨rfl, bn⟩)
      have hIn : IntBlk wn w.heap.size (fillAt (partL n s (zs.take k)) l) := HI.out.of_heap (bn.block _ hil)
      have hCn : CutBlk wn gc l k (lostL n s zs) := HCB.out.of_heap (bn.block _ hcl)
      have hBn : Below w.heap.size w wn := below_then HB.out bn
      obtain ⟨e1, e2⟩ := hIn.cell k (by rw [fillAt_length _ _ (by rw [HLe.out]; omega)]; exact hlt)
      have hS : IntBlk (wn.setCell ⟨w.heap.size, k, none⟩ (.int .i64 P)) w.heap.size (fillAt (partL n s (zs.take (k + 1))) l) := by
        have := hIn.set k P
        rw [fill_set _ _ _ _ HLe.out hlt, HX1.out] at this
        exact this
      have HS : Hid (IntBlk (wn.setCell ⟨w.heap.size, k, none⟩ (.int .i64 P)) w.heap.size (fillAt (partL n s (zs.take (k + 1))) l) ∧ CutBlk (wn.setCell ⟨w.heap.size, k, none⟩ (.int .i64 P)) gc l k (lostL n s zs) ∧ Below w.heap.size w (wn.setCell ⟨w.heap.size, k, none⟩ (.int .i64 P))) :=
        ⟨hS, hCn.of_heap (Below.heap_setCell _ _ _ _ (by simp only; omega)), hBn.setCell (p := ⟨w.heap.size, k, none⟩) (Nat.le_refl _) _⟩
      clear hIn hCn hBn hS HI HCB HB bn HX1 HM
      generalize (fillAt (partL n s (zs.take k)) l).getD k 0 = y at e1
      go_upto_region 16 with fail
      refine wp_letter (fun wx => IntBlk wx w.heap.size (fillAt (partL n s (zs.take (k + 1))) l) ∧ CutBlk wx gc l k (lostL n s zs) ∧ Below w.heap.size w wx) HS.out ?_
      rintro wx ⟨hI, hCB, hB⟩
      clear e1 e2 HS hcx hil hcl
      obtain ⟨⟨u1, f1⟩, ⟨u2, f2⟩, f3, f4⟩ := hCB.cells k hlt
      have hlc := hCB.lt
      have HN : Hid (IntBlk ((wx.setCell ⟨gc, k * 2, none⟩ (.int .i64 k)).setCell ⟨gc, k * 2 + 1, none⟩ (.int .i64 q)) w.heap.size (fillAt (partL n s (zs.take (k + 1))) l) ∧ CutBlk ((wx.setCell ⟨gc, k * 2, none⟩ (.int .i64 k)).setCell ⟨gc, k * 2 + 1, none⟩ (.int .i64 q)) gc l (k + 1) (lostL n s zs) ∧ Below w.heap.size w ((wx.setCell ⟨gc, k * 2, none⟩ (.int .i64 k)).setCell ⟨gc, k * 2 + 1, none⟩ (.int .i64 q))) :=
        ⟨(hI.set_other _ _ (by omega) _).set_other _ _ (by omega) _, hCB.next hlt q HX4.out, (hB.setCell (p := ⟨gc, k * 2, none⟩) (by simp only; omega) _).setCell (p := ⟨gc, k * 2 + 1, none⟩) (by simp only; omega) _⟩
      clear hI hCB hB HX4
      go_wp2
      have hwr : wrap64 (wrap64 (n * c) - wrap64 (P * s)) = q := by
        have := HWr.out
        simp only [IntKind.wrap_i64] at this
        simp only [wrap64]
        exact this
      rw [hwr]
      go_roundw
      case rel => exact ⟨k + 1, by omega, by go_num, by rw [HSum.out], HN.out⟩
      case measure => simp [intOf]; omega
    · obtain rfl : k = l := by omega
      obtain ⟨E1, E2, E3⟩ := HE.out
      obtain ⟨P1, P2, P3⟩ := HP.out
      have hIe : IntBlk wr w.heap.size (partL n s zs) := by
        rw [HT.out, fillAt_full _ _ P1] at hI
        exact hI
      have HG : Hid (Calls Try.prog 21 #[.int .i64 (n - (partL n s (zs.take k)).sum), .slice (some ⟨w.heap.size, 0, none⟩) k k, .slice (some ⟨gc, 0, none⟩) k k] wr fun e w' => e = .returned (.tuple #[]) ∧ IntBlk w' w.heap.size (bump (partL n s zs) (lostL n s zs) (leftP n s zs).toNat) ∧ Below w.heap.size wr w') := by
        have := giveLeft_any w.heap.size w.heap.size gc k (leftP n s zs).toNat (partL n s zs) (lostL n s zs) wr P1 P2 hb E3 P3 hIe (hCB.holds P2) hCB.lt (by omega) (Nat.le_refl _) (by omega)
        rw [HT.out, ← E1, ← Int.toNat_of_nonneg E2, Int.toNat_natCast] at *
        exact this
      have HF : Hid (∀ w', IntBlk w' w.heap.size (bump (partL n s zs) (lostL n s zs) (leftP n s zs).toNat) → Below w.heap.size wr w' → w'.ownsRow w.heap.size 3 1 (.slice (some ⟨w.heap.size, 0, none⟩) k k) k ((bump (partL n s zs) (lostL n s zs) (leftP n s zs).toNat).map (Value.int .i64)) ∧ Below w.heap.size w w') := fun w' h1 h2 =>
        ⟨own_of_block h1 (Nat.le_refl _) (by rw [List.length_map, bump_length, P1]) (by unfold maxLen; omega), hB.trans h2⟩
      have hG := HG.out
      clear E1 E2 E3 P1 P2 P3 hIe hI hCB hB HX HLeft HLen HI2 HC2 HB2 HE HP HG HC HT
      generalize n - (partL n s (zs.take k)).sum = M at *
      go_wp2_with (go_at_call 21; refine hG.mono ?_; rintro e w' ⟨rfl, h1, h2⟩)
      go_ret
      exact ⟨rfl, HF.out _ h1 h2⟩

theorem pro_any (n : Int) (v : Value) (zs : List Int) (w : World) (h : Reads w v zs) (hb : zs.length ≤ 1000000) :
    Calls Try.prog 11 #[.int .i64 n, v] w fun e w' => e = .returned (.slice (some ⟨w.heap.size, 0, none⟩) zs.length zs.length) ∧
      w'.ownsRow w.heap.size 3 1 (.slice (some ⟨w.heap.size, 0, none⟩) zs.length zs.length) zs.length ((proL n zs).map (Value.int .i64)) ∧ Below w.heap.size w w' := by
  unfold proL
  cases hz : sumFrom zs 0 with
  | none => exact pro_zero n v zs w h hb (Or.inl hz)
  | some s =>
    simp only
    by_cases n0 : n ≤ 0
    · rw [if_pos n0]
      exact pro_zero n v zs w h hb (Or.inr n0)
    · rw [if_neg n0]
      by_cases n1 : s ≤ n
      · rw [if_pos n1]
        exact pro_full n s v zs w h hb hz (by omega) n1
      · rw [if_neg n1]
        exact pro_part n s v zs w h hb hz (by omega) (by omega)

end Go.Proofs.Ytmchjfiaphkpdaa
