/-
  Package cascaderef1: the walk of Pro by parts; Pro whole.
-/
import Derived.Test.YtmchjfiaphkpdaaRefPro
namespace Go.Proofs.Ytmchjfiaphkpdaa
open Go.RowKit Go.Shelf Go.Lib Go.Sort

theorem md_part_ref (n c s : Int) (n0 : 0 < n) (n1 : n < s) (c0 : 0 ≤ c) (c1 : c ≤ s) (s1 : s ≤ 1152921504606846976) :
    mdV c n s 0 = n * c / s ∧ mdV c n s 1 = n * c / s + (if 0 < n * c % s then 1 else 0) := by
  obtain ⟨_, h0, h1⟩ := md_part n c s n0 n1 c0 c1 s1
  have e2 := Int.mul_ediv_add_emod (n * c) s
  have hle : n * c ≤ s * c := Int.mul_le_mul_of_nonneg_right (by omega) c0
  have r0 : mdRaw c n s 0 = n * c / s := by unfold mdRaw; rw [upB_down, Int.mul_comm c n]; simp
  have r1 : mdRaw c n s 1 = n * c / s + (if 0 < n * c % s then 1 else 0) := by unfold mdRaw; rw [upB_up, Int.mul_comm c n]; simp
  have b1 : n * c / s + (if 0 < n * c % s then 1 else 0) ≤ 1152921504606846976 := by
    split
    · rename_i g
      rcases Int.lt_or_le (n * c / s) c with q | q
      · omega
      · exfalso
        have : n * c / s = c := by omega
        rw [this] at e2
        omega
    · omega
  constructor
  · unfold mdV mdB mdIn
    rw [r0]
    simp only [Bool.and_eq_true, decide_eq_true_eq]
    rw [if_pos (by omega)]
  · unfold mdV mdB mdIn
    rw [r1]
    simp only [Bool.and_eq_true, decide_eq_true_eq]
    rw [if_pos (by omega)]

/-- What was lost, -1 where nothing was. -/
def rstL (n s : Int) (zs : List Int) : List Int := zs.map fun c => if n * c % s = 0 then -1 else n * c % s
theorem rstL_next (n s : Int) (zs : List Int) (k : Nat) (h : k < zs.length) : rstL n s (zs.take (k + 1)) = rstL n s (zs.take k) ++ [if n * zs.getD k 0 % s = 0 then -1 else n * zs.getD k 0 % s] := by
  rw [take_next zs k h]
  simp [rstL]
theorem rstL_rest (n s : Int) (zs : List Int) : rstL n s zs = restAt (lostL n s zs) 0 := by
  rw [restAt_zero]
  unfold rstL lostL
  rw [List.map_map]
  rfl

/-- Both rows, and what was there. -/
def Two (w0 wx : World) (gr : Nat) (X Y : List Int) : Prop := IntBlk wx w0.heap.size X ∧ IntBlk wx gr Y ∧ Below w0.heap.size w0 wx
theorem Two.then {w0 wx wy : World} {gr : Nat} {X Y : List Int} (h : Two w0 wx gr X Y) (b : Below wx.heap.size wx wy) : Two w0 wy gr X Y :=
  ⟨h.1.of_heap (b.block _ h.1.lt), h.2.1.of_heap (b.block _ h.2.1.lt), below_then h.2.2 b⟩
theorem Two.set1 {w0 wx : World} {gr : Nat} {X Y : List Int} (h : Two w0 wx gr X Y) (hne : w0.heap.size < gr) (k : Nat) (x : Int) : Two w0 (wx.setCell ⟨w0.heap.size, k, none⟩ (.int .i64 x)) gr (X.set k x) Y :=
  ⟨h.1.set k x, h.2.1.set_other _ _ (by omega) _, h.2.2.setCell (p := ⟨w0.heap.size, k, none⟩) (Nat.le_refl _) _⟩
theorem Two.set2 {w0 wx : World} {gr : Nat} {X Y : List Int} (h : Two w0 wx gr X Y) (hne : w0.heap.size < gr) (k : Nat) (y : Int) : Two w0 (wx.setCell ⟨gr, k, none⟩ (.int .i64 y)) gr X (Y.set k y) :=
  ⟨h.1.set_other _ _ (by omega) _, h.2.1.set k y, h.2.2.setCell (p := ⟨gr, k, none⟩) (by simp only; omega) _⟩

set_option maxRecDepth 100000 in
set_option maxHeartbeats 2000000 in
theorem refPro_part (n s : Int) (v : Value) (zs : List Int) (w : World) (h : Reads w v zs) (hb : zs.length ≤ 1000000) (hz : sumFrom zs 0 = some s) (n0 : 0 < n) (n1 : n < s) :
    Calls Try.prog 15 #[.int .i64 n, v] w fun e w' => e = .returned (.slice (some ⟨w.heap.size, 0, none⟩) zs.length zs.length) ∧
      w'.ownsRow w.heap.size 3 1 (.slice (some ⟨w.heap.size, 0, none⟩) zs.length zs.length) zs.length ((bump (partL n s zs) (lostL n s zs) (leftP n s zs).toNat).map (Value.int .i64)) ∧ Below w.heap.size w w' := by
  obtain ⟨i0, hi, hz0, hz1, hz2⟩ := info_parts Try.info_ints
  obtain ⟨a, cap, rfl, hcap, hm, hzc⟩ := id h
  obtain ⟨l, hl⟩ : ∃ l, zs.length = l := ⟨_, rfl⟩
  have HR : Hid (∀ w1, Below w.heap.size w w1 → Calls Try.prog 24 #[.slice a l cap] w1 fun e w' => e = .returned (.tuple #[.int .i64 s, .bool true]) ∧ w' = w1) := fun w1 b => by
    have := refSum_any _ zs w1 (h.below b)
    rw [hz, hl] at this
    exact this
  obtain ⟨hs1, hs2, s1⟩ := sumFrom_some zs 0 s hz (Int.le_refl _) (by decide)
  have hss : s = zs.sum := by omega
  have HX : Hid (∀ k, k < l → partL n s (zs.take (k + 1)) = partL n s (zs.take k) ++ [n * zs.getD k 0 / s] ∧ 0 ≤ zs.getD k 0 ∧ zs.getD k 0 ≤ s ∧ rstL n s (zs.take (k + 1)) = rstL n s (zs.take k) ++ [if n * zs.getD k 0 % s = 0 then -1 else n * zs.getD k 0 % s]) := fun k hk => by
    have hk' : k < zs.length := by omega
    have hmem : zs.getD k 0 ∈ zs := by simp [List.getD_eq_getElem?_getD, hk']
    refine ⟨partL_next n s zs k hk', hs2 _ hmem, ?_, rstL_next n s zs k hk'⟩
    rw [hss]
    exact mem_le_sum zs hs2 _ hmem
  have HLen : Hid (∀ k, k ≤ l → (partL n s (zs.take k)).length = k ∧ (rstL n s (zs.take k)).length = k) := fun k hk => by simp [partL, rstL]; omega
  have HT : Hid (zs.take l = zs) := List.take_of_length_le (by omega)
  have HLeft : Hid (∀ k, k ≤ l → 0 ≤ n - (partL n s (zs.take k)).sum ∧ n - (partL n s (zs.take k)).sum ≤ n) := fun k hk => by
    have hp : ∀ x ∈ partL n s zs, 0 ≤ x := by
      intro x hx
      simp only [partL, List.mem_map] at hx
      obtain ⟨c, hc, rfl⟩ := hx
      exact Int.ediv_nonneg (Int.mul_nonneg (by omega) (hs2 c hc)) (by omega)
    have e : partL n s zs = partL n s (zs.take k) ++ partL n s (zs.drop k) := by
      unfold partL
      rw [← List.map_append, List.take_append_drop]
    have q1 : 0 ≤ (partL n s (zs.take k)).sum := mem_le_sum.sum_pos _ (fun x hx => hp x (by rw [e]; simp [hx]))
    have q2 : 0 ≤ (partL n s (zs.drop k)).sum := mem_le_sum.sum_pos _ (fun x hx => hp x (by rw [e]; simp [hx]))
    have q3 := (left_range n s zs hss (by omega)).1
    unfold leftP at q3
    rw [e, List.sum_append] at q3
    omega
  have HE : Hid (leftP n s zs = n - (partL n s zs).sum ∧ 0 ≤ leftP n s zs ∧ leftP n s zs ≤ n ∧ ∀ t : Nat, t < (leftP n s zs).toNat → ∃ i, i < l ∧ rankOf (lostL n s zs) i = t ∧ bestOf (restAt (lostL n s zs) t) l = i ∧ (restAt (lostL n s zs) t).set i (-1) = restAt (lostL n s zs) (t + 1) ∧ (bump (partL n s zs) (lostL n s zs) t).set i ((partL n s zs).getD i 0 + 1) = bump (partL n s zs) (lostL n s zs) (t + 1) ∧ (bump (partL n s zs) (lostL n s zs) t).getD i 0 = (partL n s zs).getD i 0 ∧ 0 ≤ (partL n s zs).getD i 0 ∧ (partL n s zs).getD i 0 ≤ 1152921504606846976) := by
    have q3 := left_range n s zs hss (by omega)
    have hll : (lostL n s zs).length = l := by simpa [lostL] using hl
    have hpl : (partL n s zs).length = l := by simpa [partL] using hl
    have q4 := HLeft.out l (Nat.le_refl _)
    rw [HT.out] at q4
    refine ⟨rfl, q3.1, by unfold leftP; omega, fun t ht => ?_⟩
    obtain ⟨i, g1, g2, g3, g4⟩ := next_cent (lostL n s zs) (fun q hq => (lost_bound n s (by omega) zs q hq).1) t (by omega)
    rw [hll] at g1 g3
    have hn := (inOrd_exists (lostL n s zs)).next (A := partL n s zs) (by omega) t i (by omega) g2
    have hi' : i < zs.length := by omega
    have hmem : zs.getD i 0 ∈ zs := by simp [List.getD_eq_getElem?_getD, hi']
    have hp : (partL n s zs).getD i 0 = n * zs.getD i 0 / s := by simp [partL, hi']
    have hle : zs.getD i 0 ≤ s := by rw [hss]; exact mem_le_sum zs hs2 _ hmem
    obtain ⟨_, p0, p1⟩ := md_part n (zs.getD i 0) s n0 n1 (hs2 _ hmem) hle s1
    exact ⟨i, g1, g2, g3, g4, hn.1, hn.2, by rw [hp]; exact p0, by rw [hp]; omega⟩
  have HC : Hid (∀ k, k < l → ∃ b off, a = some ⟨b, off, none⟩ ∧ w.cell? ⟨b, off + k, none⟩ = some (.int .i64 (zs.getD k 0))) := fun k hk => by
    rcases hzc with rfl | ⟨b, off, rfl, hc⟩
    · simp at hl; omega
    · exact ⟨b, off, rfl, hc k (by omega)⟩
  have HPl : Hid ((partL n s zs).length = l ∧ (lostL n s zs).length = l) := ⟨by simpa [partL] using hl, by simpa [lostL] using hl⟩
  rw [hl] at h hb hcap ⊢
  clear hl hm hz hss hs2 hs1 hzc h
  go_enter Try.func15, Try.ntmps15
  go_upto_region 2 with (at_make; refine wpList_make_full _ rfl _ _ 23 rfl w.heap.size 3 i0 (.int .i64 0) 1 Try.underlying23 hi hz0 hz1 .i64 .i64 _ _ l rfl rfl (by simp) (by simp) (by rw [hz2]; omega) (by unfold maxLen; omega) (Nat.le_refl _) ?_; intro w1 o1 g1)
  have b1 : Below w.heap.size w w1 := below_grown (Below.refl _ _) g1 (fun k hk => by simp at hk)
  have hs := HR.out w1 b1
  rw [made_zeros, ← fillAt_nil] at o1
  have HI1 : Hid (IntBlk w1 w.heap.size (fillAt [] l)) := (own_block o1).1
  have HB1 : Hid (Below w.heap.size w w1) := b1
  have hs0 : (s == 0) = false := by simp; omega
  clear o1 g1 b1 HR
  go_upto_region 13 with (go_at_call 24; refine hs.mono ?_; rintro e w' ⟨rfl, hw'⟩; have hw' := hw'.symm; subst hw')
  clear hs
  go_upto_region 14 with (at_make; refine wpList_make_full _ rfl _ _ 23 rfl w1.heap.size 3 i0 (.int .i64 0) 1 Try.underlying23 hi hz0 hz1 .i64 .i64 _ _ l rfl rfl (by simp) (by simp) (by rw [hz2]; omega) (by unfold maxLen; omega) (Nat.le_refl _) ?_; intro w2 o2 g2)
  have b2 : Below w1.heap.size w1 w2 := below_grown (Below.refl _ _) g2 (fun k hk => by simp at hk)
  rw [made_zeros, ← fillAt_nil] at o2
  obtain ⟨gr, hgr⟩ : ∃ gr, w1.heap.size = gr := ⟨_, rfl⟩
  have hlt1 : w.heap.size < gr := by rw [← hgr]; exact HI1.out.lt
  have HI2 : Hid (Two w w2 gr (fillAt [] l) (fillAt [] l)) := by
    refine ⟨HI1.out.of_heap (b2.block _ (by omega)), ?_, below_then HB1.out b2⟩
    rw [← hgr]
    exact (own_block o2).1
  rw [hgr]
  clear b2 o2 g2 HI1 HB1 hgr hi hz0 hz1 hz2
  go_wp2
  go_loopw [10, 59] (fun t i wr => ∃ k : Nat, k ≤ l ∧ i = .int .i64 k ∧ t = .int .i64 (n - (partL n s (zs.take k)).sum) ∧ Two w wr gr (fillAt (partL n s (zs.take k)) l) (fillAt (rstL n s (zs.take k)) l)) (fun _ i _ => l - (intOf i).toNat)
  case atStart => exact ⟨0, Nat.zero_le _, rfl, by simp [partL], HI2.out⟩
  case round =>
    obtain ⟨k, hk, rfl, rfl, hI, hCB, hB⟩ := hrel
    by_cases hlt : k < l
    · obtain ⟨b, off, rfl, hcell⟩ := HC.out k hlt
      have hcx : wr.cell? ⟨b, off + k, none⟩ = some (.int .i64 (zs.getD k 0)) := (hB.cell (cell_block hcell)).trans hcell
      obtain ⟨x1, x2, x3, x4⟩ := HX.out k hlt
      obtain ⟨y1, y2⟩ := HLeft.out k hk
      have y3 := (HLeft.out (k + 1) (by omega)).1
      rw [x1, List.sum_append] at y3
      obtain ⟨hl1, hl2⟩ := HLen.out k hk
      generalize zs.getD k 0 = c at *
      obtain ⟨m1, m4⟩ := md_part_ref n c s n0 n1 x2 x3 s1
      obtain ⟨_, m2, m3⟩ := md_part n c s n0 n1 x2 x3 s1
      have q0 : 0 ≤ n * c % s := Int.emod_nonneg _ (by omega)
      have q1 : n * c % s < s := Int.emod_lt_of_pos _ (by omega)
      have HM : Hid (∀ wq : World, Calls Try.prog 25 #[.int .i64 c, .int .i64 n, .int .i64 s, .int .i64 0] wq fun e w' => e = .returned (.tuple #[.int .i64 (n * c / s), .bool (mdB c n s 0)]) ∧ Below wq.heap.size wq w') := fun wq => by
        have := refMulDiv_any c n s 0 wq
        rw [m1] at this
        exact this
      have HM1 : Hid (∀ wq : World, Calls Try.prog 25 #[.int .i64 c, .int .i64 n, .int .i64 s, .int .i64 1] wq fun e w' => e = .returned (.tuple #[.int .i64 (n * c / s + (if 0 < n * c % s then 1 else 0)), .bool (mdB c n s 1)]) ∧ Below wq.heap.size wq w') := fun wq => by
        have := refMulDiv_any c n s 1 wq
        rw [m4] at this
        exact this
      have HRm : Hid (∀ wq : World, Calls Try.prog 26 #[.int .i64 c, .int .i64 n, .int .i64 s] wq fun e w' => e = .returned (.int .i64 (n * c % s)) ∧ w' = wq) := fun wq => by
        have := remainder_any c n s wq x2 (by omega) (by omega) (by omega) s1
        rw [Int.mul_comm c n] at this
        exact this
      obtain ⟨P, hP⟩ : ∃ P, n * c / s = P := ⟨_, rfl⟩
      obtain ⟨q, hQ⟩ : ∃ q, n * c % s = q := ⟨_, rfl⟩
      rw [hP] at m2 m3 HM HM1 x1 y3
      rw [hQ] at q0 q1 x4 HM1 HRm
      obtain ⟨U, hU⟩ : ∃ U, P + (if 0 < q then 1 else 0) = U := ⟨_, rfl⟩
      rw [hU] at HM1
      have hqU : (q = 0 ∧ U = P) ∨ (0 < q ∧ U = P + 1) := by
        rw [← hU]
        split <;> omega
      obtain ⟨M, hM⟩ : ∃ M, n - (partL n s (zs.take k)).sum = M := ⟨_, rfl⟩
      rw [hM] at y1 y2 ⊢
      simp only [List.sum_cons, List.sum_nil] at y3
      have y4 : P ≤ M := by omega
      have HSum : Hid (M - P = n - (partL n s (zs.take (k + 1))).sum) := by
        show _ = _
        rw [x1, List.sum_append]
        simp only [List.sum_cons, List.sum_nil]
        omega
      have hil := hI.lt
      have hcl := hCB.lt
      have HIB : Hid (Two w wr gr (fillAt (partL n s (zs.take k)) l) (fillAt (rstL n s (zs.take k)) l)) := ⟨hI, hCB, hB⟩
      have HX1 : Hid (fillAt (partL n s (zs.take k) ++ [P]) l = fillAt (partL n s (zs.take (k + 1))) l) := by show _ = _; rw [x1]
      have HX4 : Hid (fillAt (rstL n s (zs.take k) ++ [if q = 0 then -1 else q]) l = fillAt (rstL n s (zs.take (k + 1))) l) := by show _ = _; rw [x4]
      have HLe : Hid ((partL n s (zs.take k)).length = k ∧ (rstL n s (zs.take k)).length = k) := ⟨hl1, hl2⟩
      generalize mdB c n s 0 = mb at HM
      generalize mdB c n s 1 = mb1 at HM1
      clear hI hCB hB hP hQ hM m1 m4 x1 y3 x4 hcell HX HLeft HLen HI2 hl1 hl2 hU HE
      -- the part
      go_upto_region 17 with fail
      refine wp_letter (fun wx => Two w wx gr (fillAt (partL n s (zs.take k)) l) (fillAt (rstL n s (zs.take k)) l)) HIB.out ?_
      rintro wa ha
      clear hcx hil hcl HIB
      have Ha : Hid (Two w wa gr (fillAt (partL n s (zs.take k)) l) (fillAt (rstL n s (zs.take k)) l)) := ha
      have HZ : Hid (∀ wx, Two w wx gr (fillAt (partL n s (zs.take k)) l) (fillAt (rstL n s (zs.take k)) l) → (∃ y, wx.cell? ⟨w.heap.size, k, none⟩ = some y) ∧ wx.frozen? ⟨w.heap.size, k, none⟩ = false ∧ Two w (wx.setCell ⟨w.heap.size, k, none⟩ (.int .i64 P)) gr (fillAt (partL n s (zs.take (k + 1))) l) (fillAt (rstL n s (zs.take k)) l)) := fun wx hx => by
        obtain ⟨e1, e2⟩ := hx.1.cell k (by rw [fillAt_length _ _ (by rw [HLe.out.1]; omega)]; exact hlt)
        have hS := hx.set1 hlt1 k P
        rw [fill_set _ _ _ _ HLe.out.1 hlt, HX1.out] at hS
        exact ⟨⟨_, e1⟩, e2, hS⟩
      clear ha
      go_upto_region 18 with (first
        | (go_at_call 25; refine (HM.out _).mono ?_; rintro e wn ⟨rfl, bn⟩; obtain ⟨⟨y, hy1⟩, hy2, hy3⟩ := HZ.out wn (Ha.out.then bn); have HS : Hid (Two w (wn.setCell ⟨w.heap.size, k, none⟩ (.int .i64 P)) gr (fillAt (partL n s (zs.take (k + 1))) l) (fillAt (rstL n s (zs.take k)) l)) := hy3; clear hy3 bn))
      refine wp_letter (fun wx => Two w wx gr (fillAt (partL n s (zs.take (k + 1))) l) (fillAt (rstL n s (zs.take k)) l)) HS.out ?_
      rintro wb hb'
      clear hy1 hy2 HS Ha HZ HM
      have Hb : Hid (Two w wb gr (fillAt (partL n s (zs.take (k + 1))) l) (fillAt (rstL n s (zs.take k)) l)) := hb'
      have HZ : Hid (∀ wx, Two w wx gr (fillAt (partL n s (zs.take (k + 1))) l) (fillAt (rstL n s (zs.take k)) l) → wx.cell? ⟨w.heap.size, k, none⟩ = some (.int .i64 P) ∧ (∃ y, wx.cell? ⟨gr, k, none⟩ = some y) ∧ wx.frozen? ⟨gr, k, none⟩ = false) := fun wx hx => by
        have hlx : (partL n s (zs.take k) ++ [P]).length = k + 1 := by rw [List.length_append, HLe.out.1]; rfl
        obtain ⟨e1, _⟩ := hx.1.cell k (by rw [← HX1.out, fillAt_length _ _ (by omega)]; exact hlt)
        obtain ⟨e3, e4⟩ := hx.2.1.cell k (by rw [fillAt_length _ _ (by rw [HLe.out.2]; omega)]; exact hlt)
        refine ⟨?_, ⟨_, e3⟩, e4⟩
        rw [e1, ← HX1.out]
        have : (fillAt (partL n s (zs.take k) ++ [P]) l).getD k 0 = P := by
          unfold fillAt
          rw [List.getD_eq_getElem?_getD, List.getElem?_append_left (by omega), List.getElem?_append_right (by rw [HLe.out.1]; exact Nat.le_refl _), HLe.out.1, Nat.sub_self]
          rfl
        rw [this]
      clear hb'
      go_upto_region 20 with (first
        | (go_at_call 25; refine (HM1.out _).mono ?_; rintro e wn ⟨rfl, bn⟩; obtain ⟨hy1, ⟨y, hy2⟩, hy3⟩ := HZ.out wn (Hb.out.then bn); have Hn : Hid (Two w wn gr (fillAt (partL n s (zs.take (k + 1))) l) (fillAt (rstL n s (zs.take k)) l)) := Hb.out.then bn; clear bn))
      have HFin : Hid (∀ z, (if q = 0 then -1 else q) = z → (fillAt (rstL n s (zs.take k)) l).set k z = fillAt (rstL n s (zs.take (k + 1))) l) := fun z hz => by
        rw [fill_set _ _ _ _ HLe.out.2 hlt, ← hz, HX4.out]
      have H1 : Hid (Two w (wn.setCell ⟨gr, k, none⟩ (.int .i64 (-1))) gr (fillAt (partL n s (zs.take (k + 1))) l) ((fillAt (rstL n s (zs.take k)) l).set k (-1))) := Hn.out.set2 hlt1 k (-1)
      clear Hb HM1 HLe HX1 HX4
      go_upto_region 21 with fail
      refine wp_letter (fun wx => Two w wx gr (fillAt (partL n s (zs.take (k + 1))) l) ((fillAt (rstL n s (zs.take k)) l).set k (-1)) ∧ wx.cell? ⟨w.heap.size, k, none⟩ = some (.int .i64 P) ∧ (∃ y, wx.cell? ⟨gr, k, none⟩ = some y) ∧ wx.frozen? ⟨gr, k, none⟩ = false) ?_ ?_
      · refine ⟨H1.out, ?_, ⟨.int .i64 (-1), ?_⟩, ?_⟩
        · exact (World.cell?_of_block (w := wn) (Below.heap_setCell _ _ _ _ (by simp only; omega))).trans hy1
        · rw [World.cell?_setCell_same' _ _ _ (by rw [hy2]; rfl)]
        · rw [World.frozen?_setCell]
          exact hy3
      rintro wd ⟨hd1, hd2, ⟨y', hd3⟩, hd4⟩
      clear hy1 hy2 hy3 Hn H1 HZ
      rcases hqU with ⟨rfl, rfl⟩ | ⟨hq0, rfl⟩
      · have HF2 : Hid (Two w wd gr (fillAt (partL n s (zs.take (k + 1))) l) (fillAt (rstL n s (zs.take (k + 1))) l)) := by
          rw [HFin.out (-1) rfl] at hd1
          exact hd1
        clear hd1 HFin hd3 hd4
        go_wp2
        go_roundw
        case rel => exact ⟨k + 1, by omega, by go_num, by rw [HSum.out], HF2.out⟩
        case measure => simp [intOf]; omega
      · have HF2 : Hid (Two w (wd.setCell ⟨gr, k, none⟩ (.int .i64 q)) gr (fillAt (partL n s (zs.take (k + 1))) l) (fillAt (rstL n s (zs.take (k + 1))) l)) := by
          have := hd1.set2 hlt1 k q
          rw [List.set_set, HFin.out q (by rw [if_neg (by omega)])] at this
          exact this
        clear hd1 HFin
        go_wp2_with (go_at_call 26; refine (HRm.out _).mono ?_; rintro e w' ⟨rfl, hw'⟩; have hw' := hw'.symm; subst hw')
        go_roundw
        case rel => exact ⟨k + 1, by omega, by go_num, by rw [HSum.out], HF2.out⟩
        case measure => simp [intOf]; omega
    · obtain rfl : k = l := by omega
      obtain ⟨E1, E2, E3, E4⟩ := HE.out
      have h2 : Two w wr gr (bump (partL n s zs) (lostL n s zs) 0) (restAt (lostL n s zs) 0) := by
        have g1 := HLen.out k hk
        rw [HT.out] at g1 hI hCB
        rw [fillAt_full _ _ g1.1] at hI
        rw [fillAt_full _ _ g1.2, rstL_rest] at hCB
        rw [bump_zero]
        exact ⟨hI, hCB, hB⟩
      obtain ⟨LT, hLT⟩ : ∃ LT, (leftP n s zs).toNat = LT := ⟨_, rfl⟩
      have e0 : n - (partL n s (zs.take k)).sum = ((LT : Nat) : Int) := by rw [HT.out, ← E1, ← hLT]; omega
      have LT1 : (LT : Int) ≤ n := by omega
      rw [hLT] at E4
      rw [e0]
      obtain ⟨p1, p2⟩ := HPl.out
      obtain ⟨PA, hPA⟩ : ∃ PA, partL n s zs = PA := ⟨_, rfl⟩
      obtain ⟨LS, hLS⟩ : ∃ LS, lostL n s zs = LS := ⟨_, rfl⟩
      rw [hPA] at p1 h2 E4
      rw [hLS] at p2 h2 E4
      have HQ : Hid (∀ w', Two w w' gr (bump PA LS LT) (restAt LS LT) → w'.ownsRow w.heap.size 3 1 (.slice (some ⟨w.heap.size, 0, none⟩) k k) k ((bump (partL n s zs) (lostL n s zs) (leftP n s zs).toNat).map (Value.int .i64)) ∧ Below w.heap.size w w') := fun w' h' => by
        rw [hLT, hPA, hLS]
        exact ⟨own_of_block h'.1 (Nat.le_refl _) (by rw [List.length_map, bump_length, p1]) (by unfold maxLen; omega), h'.2.2⟩
      have HBl : Hid (∀ j, (bump PA LS j).length = k ∧ (restAt LS j).length = k) := fun j => ⟨by rw [bump_length, p1], by rw [restAt_length, p2]⟩
      clear hI hCB hB HX HLeft HLen HI2 HE HC HT E1 E2 E3 e0 hLT p1 p2 HPl hPA hLS
      have HE : Hid (∀ t : Nat, t < LT → ∃ i, i < k ∧ rankOf LS i = t ∧ bestOf (restAt LS t) k = i ∧ (restAt LS t).set i (-1) = restAt LS (t + 1) ∧ (bump PA LS t).set i (PA.getD i 0 + 1) = bump PA LS (t + 1) ∧ (bump PA LS t).getD i 0 = PA.getD i 0 ∧ 0 ≤ PA.getD i 0 ∧ PA.getD i 0 ≤ 1152921504606846976) := E4
      have H2 : Hid (Two w wr gr (bump PA LS 0) (restAt LS 0)) := h2
      clear E4 h2
      go_wp2
      go_loopw [10] (fun t wx => ∃ j : Nat, j ≤ LT ∧ t = .int .i64 ((LT : Int) - (j : Int)) ∧ Two w wx gr (bump PA LS j) (restAt LS j)) (fun t _ => (intOf t).toNat)
      case atStart => exact ⟨0, Nat.zero_le _, by simp, H2.out⟩
      case round =>
        rename_i wo
        obtain ⟨j, hj, rfl, h2⟩ := hrel
        by_cases hlt : j < LT
        · obtain ⟨i, i1, i2, i3, i4, i5, i6, i7, i8⟩ := HE.out j hlt
          have H3 : Hid (Two w wr gr (bump PA LS j) (restAt LS j)) := h2
          have HRl : Hid ((restAt LS j).length = k) := (HBl.out j).2
          have HCell : Hid (∀ m, m < k → wr.cell? ⟨gr, m, none⟩ = some (.int .i64 ((restAt LS j).getD m 0))) := fun m hm => (h2.2.1.cell m (by rw [HRl.out]; exact hm)).1
          have HBs : Hid (∀ m, m ≤ k → bestOf (restAt LS j) m < k) := fun m hm => by
            have := bestOf_lt (restAt LS j) m (by rw [HRl.out]; omega) (by rw [HRl.out]; exact hm)
            rw [HRl.out] at this
            exact this
          clear h2 H2
          go_wp2
          go_loopw [16, 110] (fun bst x wq => ∃ m : Nat, m ≤ k ∧ x = .int .i64 m ∧ bst = .int .i64 (bestOf (restAt LS j) m : Nat) ∧ ∃ q, wq = wr.drewN q) (fun _ x _ => k - (intOf x).toNat)
          case atStart => exact ⟨0, Nat.zero_le _, rfl, rfl, 0, rfl⟩
          case round =>
            obtain ⟨m, hm, rfl, rfl, q, rfl⟩ := hrel
            by_cases hmk : m < k
            · have c1 := HCell.out m hmk
              have hbl := HBs.out m hm
              have c2 := HCell.out _ hbl
              have hnx : bestOf (restAt LS j) (m + 1) = if (restAt LS j).getD (bestOf (restAt LS j) m) 0 < (restAt LS j).getD m 0 then m else bestOf (restAt LS j) m := rfl
              generalize bestOf (restAt LS j) m = bm at *
              generalize (restAt LS j).getD m 0 = rm at *
              generalize (restAt LS j).getD bm 0 = rb at *
              have HN : Hid (bestOf (restAt LS j) (m + 1) = if rb < rm then m else bm) := hnx
              have m0 : (0 : Int) ≤ (m : Int) := by omega
              have m1 : (m : Int) < (k : Int) := by omega
              have m2 : (0 : Int) ≤ (bm : Int) := by omega
              have m3 : (bm : Int) < (k : Int) := by omega
              clear hnx
              by_cases hc : rb < rm
              · have hn2 : bestOf (restAt LS j) (m + 1) = m := by rw [HN.out, if_pos hc]
                have HN2 : Hid (bestOf (restAt LS j) (m + 1) = m) := hn2
                have d1 : decide (rb < rm) = true := by simpa using hc
                clear hc hn2
                go_wp2
                go_quiet (fail)
                go_wp2
                go_roundw
                case rel => exact ⟨m + 1, by omega, by go_num, by rw [HN2.out], _, rfl⟩
                case measure => simp [intOf]; omega
              · have hn2 : bestOf (restAt LS j) (m + 1) = bm := by rw [HN.out, if_neg hc]
                have HN2 : Hid (bestOf (restAt LS j) (m + 1) = bm) := hn2
                have d1 : decide (rb < rm) = false := by simpa using hc
                clear hc hn2
                go_wp2
                go_quiet (fail)
                go_wp2
                go_roundw
                case rel => exact ⟨m + 1, by omega, by go_num, by rw [HN2.out], _, rfl⟩
                case measure => simp [intOf]; omega
            · obtain rfl : m = k := by omega
              rw [i3]
              refine wp_letter (fun wx => Two w wx gr (bump PA LS j) (restAt LS j)) (H3.out.then (below_draws (Below.refl _ _) q)) ?_
              rintro we h4
              obtain ⟨c1, c2⟩ := h4.1.cell i (by rw [(HBl.out j).1]; exact i1)
              obtain ⟨c3, c4⟩ := h4.2.1.cell i (by rw [HRl.out]; exact i1)
              rw [i6] at c1
              have HF : Hid (Two w ((we.setCell ⟨w.heap.size, i, none⟩ (.int .i64 (PA.getD i 0 + 1))).setCell ⟨gr, i, none⟩ (.int .i64 (-1))) gr (bump PA LS (j + 1)) (restAt LS (j + 1))) := by
                have := (h4.set1 hlt1 i (PA.getD i 0 + 1)).set2 hlt1 i (-1)
                rw [i5, i4] at this
                exact this
              clear h4 i2 i3 i4 i5 i6 HCell HBs HRl H3 HE HQ HBl
              generalize PA.getD i 0 = pa at *
              generalize (restAt LS j).getD i 0 = ra at *
              go_wp2
              go_roundw
              case rel => exact ⟨j + 1, by omega, by go_num, HF.out⟩
              case measure => simp [intOf]; omega
        · obtain rfl : j = LT := by omega
          have hq := HQ.out wr h2
          have HQ2 : Hid (wr.ownsRow w.heap.size 3 1 (.slice (some ⟨w.heap.size, 0, none⟩) k k) k ((bump (partL n s zs) (lostL n s zs) (leftP n s zs).toNat).map (Value.int .i64)) ∧ Below w.heap.size w wr) := hq
          clear hq h2 HQ HE H2 HBl
          go_wp2
          go_ret
          exact ⟨rfl, HQ2.out⟩

theorem refPro_any (n : Int) (v : Value) (zs : List Int) (w : World) (h : Reads w v zs) (hb : zs.length ≤ 1000000) :
    Calls Try.prog 15 #[.int .i64 n, v] w fun e w' => e = .returned (.slice (some ⟨w.heap.size, 0, none⟩) zs.length zs.length) ∧
      w'.ownsRow w.heap.size 3 1 (.slice (some ⟨w.heap.size, 0, none⟩) zs.length zs.length) zs.length ((proL n zs).map (Value.int .i64)) ∧ Below w.heap.size w w' := by
  unfold proL
  cases hz : sumFrom zs 0 with
  | none => exact refPro_zero n v zs w h hb (Or.inl hz)
  | some s =>
    simp only
    by_cases n0 : n ≤ 0
    · rw [if_pos n0]
      exact refPro_zero n v zs w h hb (Or.inr (Or.inl n0))
    · rw [if_neg n0]
      obtain ⟨hs1, hs2, s1⟩ := sumFrom_some zs 0 s hz (Int.le_refl _) (by decide)
      have hs3 := mem_le_sum.sum_pos zs hs2
      by_cases n1 : s ≤ n
      · rw [if_pos n1]
        by_cases s0 : s = 0
        · subst s0
          have := refPro_zero n v zs w h hb (Or.inr (Or.inr hz))
          rw [← zeros_of_sum zs hs2 (by omega)] at this
          exact this
        · exact refPro_full n s v zs w h hb hz (by omega) (by omega) n1
      · rw [if_neg n1]
        exact refPro_part n s v zs w h hb hz (by omega) (by omega)

end Go.Proofs.Ytmchjfiaphkpdaa
