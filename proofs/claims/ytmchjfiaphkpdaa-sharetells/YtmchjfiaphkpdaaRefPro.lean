/-
  Package cascaderef1: the walk of Pro: the plain facts, and where nothing or all is given.
-/
import Derived.Test.YtmchjfiaphkpdaaRefShare
import Derived.Test.YtmchjfiaphkpdaaPro3
namespace Go.Proofs.Ytmchjfiaphkpdaa
open Go.RowKit Go.Shelf Go.Lib Go.Sort

/-- What lost nothing, or has its cent, is out. -/
def restAt (ls : List Int) (t : Nat) : List Int := (List.range ls.length).map fun i => if rankOf ls i < t ∨ ls.getD i 0 = 0 then -1 else ls.getD i 0
theorem restAt_length (ls : List Int) (t : Nat) : (restAt ls t).length = ls.length := by simp [restAt]
theorem restAt_at (ls : List Int) (t i : Nat) (h : i < ls.length) : (restAt ls t).getD i 0 = if rankOf ls i < t ∨ ls.getD i 0 = 0 then -1 else ls.getD i 0 := by
  simp only [restAt, List.getD_eq_getElem?_getD, List.getElem?_map, List.getElem?_range h, Option.map_some, Option.getD_some]
theorem restAt_zero (ls : List Int) : restAt ls 0 = ls.map fun q => if q = 0 then -1 else q := by
  apply List.ext_getElem
  · simp [restAt]
  · intro i h1 h2
    have hi : i < ls.length := by simpa using h2
    simp [restAt, hi]

/-- The first of the greatest among the first k. -/
def bestOf (R : List Int) : Nat → Nat
  | 0 => 0
  | k + 1 => if R.getD (bestOf R k) 0 < R.getD k 0 then k else bestOf R k

theorem bestOf_lt (R : List Int) : ∀ k, 0 < R.length → k ≤ R.length → bestOf R k < R.length
  | 0, h, _ => h
  | k + 1, h, hk => by
    simp only [bestOf]
    split
    · omega
    · exact bestOf_lt R k h (by omega)

theorem best_is (R : List Int) (i : Nat) (h1 : ∀ j, j < i → R.getD j 0 < R.getD i 0) (h2 : ∀ j, i < j → j < R.length → R.getD j 0 ≤ R.getD i 0) :
    ∀ k, k ≤ R.length → (i < k → bestOf R k = i) ∧ (k ≤ i → bestOf R k < i ∨ bestOf R k = 0)
  | 0, _ => ⟨fun h => by omega, fun _ => Or.inr rfl⟩
  | k + 1, hk => by
    obtain ⟨a, b⟩ := best_is R i h1 h2 k (by omega)
    simp only [bestOf]
    refine ⟨fun h => ?_, fun h => ?_⟩
    · rcases Nat.lt_or_ge i k with g | g
      · rw [a g, if_neg (by have := h2 k g (by omega); omega)]
      · obtain rfl : k = i := by omega
        rcases b (Nat.le_refl _) with b | b
        · rw [if_pos (h1 _ b)]
        · rcases Nat.eq_zero_or_pos k with c | c
          · subst c
            rw [b]
            split <;> rfl
          · rw [if_pos (h1 _ (by omega))]
    · have := b (by omega)
      split
      · left; omega
      · exact this

/-- The next cent's place. -/
theorem next_cent (ls : List Int) (h0 : ∀ q ∈ ls, 0 ≤ q) (t : Nat) (ht : t < ls.countP (fun q => decide (0 < q))) :
    ∃ i, i < ls.length ∧ rankOf ls i = t ∧ bestOf (restAt ls t) ls.length = i ∧ (restAt ls t).set i (-1) = restAt ls (t + 1) := by
  have hc : ls.countP (fun q => decide (0 < q)) ≤ ls.length := List.countP_le_length
  have hI := inOrd_exists ls
  have hl := hI.length
  obtain ⟨i, hi, hxe, hr⟩ := hI.place t _ (List.getElem?_eq_getElem (show t < _ by omega))
  have hge : ∀ j, j < ls.length → 0 ≤ ls.getD j 0 := fun j hj => h0 _ (by simp [List.getD_eq_getElem?_getD, hj])
  have hpos : 0 < ls.getD i 0 := by
    rcases Int.lt_or_le 0 (ls.getD i 0) with g | g
    · exact g
    · exfalso
      have := rank_zero ls i (by have := hge i hi; omega)
      omega
  have hRi : (restAt ls t).getD i 0 = ls.getD i 0 := by rw [restAt_at ls t i hi, if_neg (by omega)]
  -- one that is neither out nor i stands behind i
  have behind : ∀ j, j < ls.length → j ≠ i → ¬ rankOf ls j < t → aheadB ((i : Int), ls.getD i 0) ((j : Int), ls.getD j 0) = true := by
    intro j hj hne hnt
    cases hb : aheadB ((i : Int), ls.getD i 0) ((j : Int), ls.getD j 0) with
    | true => rfl
    | false =>
      exfalso
      have h2 : aheadB ((j : Int), ls.getD j 0) ((i : Int), ls.getD i 0) = true := by
        cases hc2 : aheadB ((j : Int), ls.getD j 0) ((i : Int), ls.getD i 0) with
        | true => rfl
        | false =>
          have := ahead_one _ _ hb hc2
          simp only [Prod.mk.injEq] at this
          omega
      have h3 : rankOf ls j ≤ rankOf ls i := by
        unfold rankOf
        exact List.countP_mono_left fun y _ hy => ahead_trans y _ _ hy h2
      exact hne (hI.only j i hj hi (by omega))
  have lt1 : ∀ j, j < i → (restAt ls t).getD j 0 < (restAt ls t).getD i 0 := by
    intro j hj
    rw [hRi, restAt_at ls t j (by omega)]
    by_cases g : rankOf ls j < t ∨ ls.getD j 0 = 0
    · rw [if_pos g]; omega
    · rw [if_neg g]
      have := behind j (by omega) (by omega) (by omega)
      rw [aheadB_iff] at this
      simp only at this
      omega
  have le2 : ∀ j, i < j → j < (restAt ls t).length → (restAt ls t).getD j 0 ≤ (restAt ls t).getD i 0 := by
    intro j hj hjl
    rw [restAt_length] at hjl
    rw [hRi, restAt_at ls t j hjl]
    by_cases g : rankOf ls j < t ∨ ls.getD j 0 = 0
    · rw [if_pos g]; omega
    · rw [if_neg g]
      have := behind j hjl (by omega) (by omega)
      rw [aheadB_iff] at this
      simp only at this
      omega
  refine ⟨i, hi, hr, ?_, ?_⟩
  · have := (best_is (restAt ls t) i lt1 le2 ls.length (by rw [restAt_length]; exact Nat.le_refl _)).1 hi
    exact this
  · apply List.ext_getElem
    · simp [restAt]
    · intro j g1 g2
      have hj : j < ls.length := by simpa [restAt] using g2
      rw [List.getElem_set]
      by_cases hij : i = j
      · subst hij
        simp [restAt, hr]
      · rw [if_neg hij]
        have : rankOf ls j ≠ t := fun c => hij (hI.only i j hi hj (by omega))
        simp only [restAt, List.getElem_map, List.getElem_range]
        by_cases g : rankOf ls j < t ∨ ls.getD j 0 = 0
        · rw [if_pos g, if_pos (by omega)]
        · rw [if_neg g, if_neg (by omega)]

theorem zeros_of_sum : ∀ (zs : List Int), (∀ x ∈ zs, 0 ≤ x) → zs.sum = 0 → zs = List.replicate zs.length 0
  | [], _, _ => rfl
  | c :: r, h, hs => by
    have hc := h c (by simp)
    have hr : ∀ x ∈ r, 0 ≤ x := fun x hx => h x (by simp [hx])
    have := mem_le_sum.sum_pos r hr
    rw [List.sum_cons] at hs
    rw [List.length_cons, List.replicate_succ, ← zeros_of_sum r hr (by omega), show c = 0 by omega]

set_option maxRecDepth 100000 in
set_option maxHeartbeats 1000000 in
theorem refPro_zero (n : Int) (v : Value) (zs : List Int) (w : World) (h : Reads w v zs) (hb : zs.length ≤ 1000000) (hz : sumFrom zs 0 = none ∨ n ≤ 0 ∨ sumFrom zs 0 = some 0) :
    Calls Try.prog 15 #[.int .i64 n, v] w fun e w' => e = .returned (.slice (some ⟨w.heap.size, 0, none⟩) zs.length zs.length) ∧
      w'.ownsRow w.heap.size 3 1 (.slice (some ⟨w.heap.size, 0, none⟩) zs.length zs.length) zs.length ((List.replicate zs.length (0 : Int)).map (Value.int .i64)) ∧ Below w.heap.size w w' := by
  obtain ⟨i0, hi, hz0, hz1, hz2⟩ := info_parts Try.info_ints
  obtain ⟨a, cap, rfl, hcap, hm, _⟩ := id h
  obtain ⟨l, hl⟩ : ∃ l, zs.length = l := ⟨_, rfl⟩
  have HR : Hid (∀ w1, Below w.heap.size w w1 → Calls Try.prog 24 #[.slice a l cap] w1 fun e w' => e = .returned (.tuple #[.int .i64 ((sumFrom zs 0).getD 0), .bool (sumFrom zs 0).isSome]) ∧ w' = w1) := fun w1 b => by rw [← hl]; exact refSum_any _ zs w1 (h.below b)
  rw [hl] at hb hcap ⊢
  clear h hl hm
  have hb0 : (sumFrom zs 0).isSome = false ∨ ((sumFrom zs 0).isSome = true ∧ n ≤ 0) ∨ ((sumFrom zs 0).isSome = true ∧ 0 < n ∧ (sumFrom zs 0).getD 0 = 0) := by
    cases he : sumFrom zs 0 with
    | none => left; rfl
    | some s =>
      right
      rw [he] at hz
      simp only [Option.isSome_some, true_and, Option.getD_some]
      simp only [reduceCtorEq, Option.some.injEq, false_or] at hz
      omega
  clear hz
  generalize (sumFrom zs 0).getD 0 = sv at HR hb0
  generalize (sumFrom zs 0).isSome = ok at HR hb0
  go_enter Try.func15, Try.ntmps15
  go_upto_region 2 with (at_make; refine wpList_make_full _ rfl _ _ 23 rfl w.heap.size 3 i0 (.int .i64 0) 1 Try.underlying23 hi hz0 hz1 .i64 .i64 _ _ l rfl rfl (by simp) (by simp) (by rw [hz2]; omega) (by unfold maxLen; omega) (Nat.le_refl _) ?_; intro w1 o1 g1)
  have b1 : Below w.heap.size w w1 := below_grown (Below.refl _ _) g1 (fun k hk => by simp at hk)
  rw [made_zeros] at o1
  have HO : Hid (w1.ownsRow w.heap.size 3 1 (.slice (some ⟨w.heap.size, 0, none⟩) l l) l ((List.replicate l (0 : Int)).map (Value.int .i64))) := o1
  have HB : Hid (Below w.heap.size w w1) := b1
  have hs := HR.out w1 b1
  clear o1 b1 g1 HR
  rcases hb0 with rfl | ⟨rfl, hn⟩ | ⟨rfl, hn, rfl⟩
  all_goals
    go_wp2_with (go_at_call 24; refine hs.mono ?_; rintro e w' ⟨rfl, rfl⟩)
    go_ret
    exact ⟨rfl, HO.out, HB.out⟩

set_option maxRecDepth 100000 in
set_option maxHeartbeats 1000000 in
theorem refPro_full (n s : Int) (v : Value) (zs : List Int) (w : World) (h : Reads w v zs) (hb : zs.length ≤ 1000000) (hz : sumFrom zs 0 = some s) (n0 : 0 < n) (s0 : 0 < s) (n1 : s ≤ n) :
    Calls Try.prog 15 #[.int .i64 n, v] w fun e w' => e = .returned (.slice (some ⟨w.heap.size, 0, none⟩) zs.length zs.length) ∧
      w'.ownsRow w.heap.size 3 1 (.slice (some ⟨w.heap.size, 0, none⟩) zs.length zs.length) zs.length (zs.map (Value.int .i64)) ∧ Below w.heap.size w w' := by
  obtain ⟨i0, hi, hz0, hz1, hz2⟩ := info_parts Try.info_ints
  obtain ⟨a, cap, rfl, hcap, hm, hzc⟩ := id h
  obtain ⟨l, hl⟩ : ∃ l, zs.length = l := ⟨_, rfl⟩
  have HR : Hid (∀ w1, Below w.heap.size w w1 → Calls Try.prog 24 #[.slice a l cap] w1 fun e w' => e = .returned (.tuple #[.int .i64 s, .bool true]) ∧ w' = w1) := fun w1 b => by
    have := refSum_any _ zs w1 (h.below b)
    rw [hz, hl] at this
    exact this
  have HX : Hid (∀ k, k < l → zs.take (k + 1) = zs.take k ++ [zs.getD k 0]) := fun k hk => take_next zs k (by omega)
  have HT : Hid (zs.take l = zs) := List.take_of_length_le (by omega)
  have HLen : Hid (∀ k, k ≤ l → (zs.take k).length = k) := fun k hk => by rw [List.length_take]; omega
  have HC : Hid (∀ k, k < l → ∃ b off, a = some ⟨b, off, none⟩ ∧ w.cell? ⟨b, off + k, none⟩ = some (.int .i64 (zs.getD k 0))) := fun k hk => by
    rcases hzc with rfl | ⟨b, off, rfl, hc⟩
    · simp at hl; omega
    · exact ⟨b, off, rfl, hc k (by omega)⟩
  rw [hl] at h hb hcap ⊢
  clear hl hm hz hzc h
  go_enter Try.func15, Try.ntmps15
  go_upto_region 2 with (at_make; refine wpList_make_full _ rfl _ _ 23 rfl w.heap.size 3 i0 (.int .i64 0) 1 Try.underlying23 hi hz0 hz1 .i64 .i64 _ _ l rfl rfl (by simp) (by simp) (by rw [hz2]; omega) (by unfold maxLen; omega) (Nat.le_refl _) ?_; intro w1 o1 g1)
  have b1 : Below w.heap.size w w1 := below_grown (Below.refl _ _) g1 (fun k hk => by simp at hk)
  have hs := HR.out w1 b1
  rw [made_zeros, ← fillAt_nil] at o1
  have HI1 : Hid (IntBlk w1 w.heap.size (fillAt [] l)) := (own_block o1).1
  have HB1 : Hid (Below w.heap.size w w1) := b1
  clear o1 g1 b1 HR
  have hs0 : (s == 0) = false := by simp; omega
  go_wp2_with (go_at_call 24; refine hs.mono ?_; rintro e w' ⟨rfl, hw'⟩; have hw' := hw'.symm; subst hw')
  clear hs
  go_loopw [42] (fun i wr => ∃ k : Nat, k ≤ l ∧ i = .int .i64 k ∧ IntBlk wr w.heap.size (fillAt (zs.take k) l) ∧ Below w.heap.size w wr) (fun i _ => l - (intOf i).toNat)
  case atStart => exact ⟨0, Nat.zero_le _, rfl, HI1.out, HB1.out⟩
  case round =>
    obtain ⟨k, hk, rfl, hI, hB⟩ := hrel
    by_cases hlt : k < l
    · obtain ⟨b, off, rfl, hcell⟩ := HC.out k hlt
      have hcx : wr.cell? ⟨b, off + k, none⟩ = some (.int .i64 (zs.getD k 0)) := (hB.cell (cell_block hcell)).trans hcell
      have x1 := HX.out k hlt
      have hlen := HLen.out k hk
      obtain ⟨e1, e2⟩ := hI.cell k (by rw [fillAt_length _ _ (by rw [hlen]; omega)]; exact hlt)
      generalize zs.getD k 0 = c at *
      have hS := hI.set k c
      rw [fill_set _ _ _ _ hlen hlt, ← x1] at hS
      have HS : Hid (IntBlk (wr.setCell ⟨w.heap.size, k, none⟩ (.int .i64 c)) w.heap.size (fillAt (zs.take (k + 1)) l) ∧ Below w.heap.size w (wr.setCell ⟨w.heap.size, k, none⟩ (.int .i64 c))) := ⟨hS, hB.setCell (p := ⟨w.heap.size, k, none⟩) (Nat.le_refl _) _⟩
      clear hS hI hB x1 hlen hcell HI1 HB1
      generalize (fillAt (zs.take k) l).getD k 0 = y at e1
      go_wp2
      go_roundw
      case rel => exact ⟨k + 1, by omega, by go_num, HS.out⟩
      case measure => simp [intOf]; omega
    · obtain rfl : k = l := by omega
      have HO : Hid (wr.ownsRow w.heap.size 3 1 (.slice (some ⟨w.heap.size, 0, none⟩) k k) k (zs.map (Value.int .i64))) := by
        have h1 := HLen.out k hk
        rw [fillAt_full _ _ h1, HT.out] at hI
        rw [HT.out] at h1
        exact own_of_block hI (Nat.le_refl _) (by rw [List.length_map]; exact h1) (by unfold maxLen; omega)
      have HB : Hid (Below w.heap.size w wr) := hB
      clear hI hB HI1 HB1
      go_wp2
      go_ret
      exact ⟨rfl, HO.out, HB.out⟩

end Go.Proofs.Ytmchjfiaphkpdaa
