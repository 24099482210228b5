/-
  The walk of ShareTimes.
-/
import Derived.Test.YtmchjfiaphkpdaaShareProWalk
namespace Go.Proofs.Ytmchjfiaphkpdaa
open Go.RowKit

theorem mul_min_of (J a b : Int) (hJ : 0 ≤ J) : min (J * a) (J * b) = J * min a b := by
  rcases Int.le_total a b with h | h
  · rw [Int.min_eq_left h, Int.min_eq_left (Int.mul_le_mul_of_nonneg_left h hJ)]
  · rw [Int.min_eq_right h, Int.min_eq_right (Int.mul_le_mul_of_nonneg_left h hJ)]

theorem inOrd_times (J : Int) (hJ : 0 ≤ J) : ∀ (L : List Int) (n : Int), (∀ x ∈ L, 0 ≤ x) → inOrd (J * n) (L.map (J * ·)) = (inOrd n L).map (J * ·)
  | [], _, _ => rfl
  | c :: r, n, h => by
    have hc := h c (by simp)
    have h1 : max (J * c) 0 = J * c := Int.max_eq_left (Int.mul_nonneg hJ hc)
    have h2 : max c 0 = c := Int.max_eq_left hc
    simp only [List.map_cons, inOrd, h1, h2, mul_min_of J n c hJ]
    rw [← Int.mul_sub, inOrd_times J hJ r _ (fun x hx => h x (by simp [hx]))]

theorem sum_times (J : Int) : ∀ L : List Int, (L.map (J * ·)).sum = J * L.sum
  | [] => by simp
  | c :: r => by simp only [List.map_cons, List.sum_cons, sum_times J r, Int.mul_add]

theorem pro_times (A T : Int) (L : List Int) (hL : ∀ x ∈ L, 0 ≤ x) (hT : L.sum = T) (T1 : T ≤ 8388608) (A0 : 0 ≤ A) (A1 : A ≤ T) : proL (T * A) (L.map (T * ·)) = L.map (A * ·) := by
  have hp : ∀ x ∈ L.map (T * ·), 0 ≤ x := by
    intro x hx
    obtain ⟨y, hy, rfl⟩ := List.mem_map.1 hx
    exact Int.mul_nonneg (by omega) (hL y hy)
  have hs : (L.map (T * ·)).sum = T * T := by rw [sum_times, hT]
  have ht : (L.map (T * ·)).sum ≤ 1152921504606846976 := by
    rw [hs]
    exact Int.le_trans (Int.mul_le_mul T1 T1 (by omega) (by decide)) (by decide)
  by_cases h0 : A = 0
  · subst h0
    rw [proL_low _ _ hp ht (by omega), List.length_map]
    apply List.ext_getElem
    · simp
    · intro i h1 h2
      simp
  · by_cases h1 : A = T
    · subst h1
      rw [proL_full _ _ hp ht (Int.mul_pos (by omega) (by omega)) (by omega)]
    · have n0 : 0 < T * A := Int.mul_pos (by omega) (by omega)
      have n1 : T * A < T * T := Int.mul_lt_mul_of_pos_left (by omega) (by omega)
      apply List.ext_getElem
      · rw [proL_length, List.length_map, List.length_map]
      · intro i g1 g2
        have hi : i < L.length := by simpa using g2
        obtain ⟨b, e, hb, _⟩ := pro_share (T * A) (T * T) (L.map (T * ·)) (by rw [sumFrom_total _ hp ht, hs]) n0 n1 i (by simpa using hi)
        have e0 : (L.map (T * ·)).getD i 0 = T * L[i] := by simp [hi]
        have e1 : T * A * (T * L[i]) = T * T * (A * L[i]) := by
          rw [Int.mul_assoc, Int.mul_assoc, Int.mul_left_comm A T]
        have tt : T * T ≠ 0 := by omega
        rw [e0, e1] at e hb
        rw [Int.mul_ediv_cancel_left _ tt] at e
        rw [Int.mul_emod_right] at hb
        have hb0 : b = 0 := by omega
        rw [hb0, Int.add_zero] at e
        have e3 : (proL (T * A) (L.map (T * ·))).getD i 0 = (proL (T * A) (L.map (T * ·)))[i] := by simp [g1]
        rw [← e3, e]
        simp

/-- The first k, so many times. -/
def timesL (J : Int) (L : List Int) (k : Nat) : List Int := (L.take k).map (J * ·)
theorem times_next (J : Int) (L : List Int) (k : Nat) (h : k < L.length) : timesL J L (k + 1) = timesL J L k ++ [J * L.getD k 0] := by
  unfold timesL
  rw [take_next L k h, List.map_append]
  rfl
theorem times_all (J : Int) (L : List Int) (k : Nat) (h : L.length = k) : timesL J L k = L.map (J * ·) := by
  unfold timesL
  rw [List.take_of_length_le (by omega)]

set_option maxRecDepth 1000000 in
set_option maxHeartbeats 2000000 in
theorem shareTimes_any (n k0 : Int) (a : Option Addr) (len cap : Nat) (zs : List Int) (w : World) (_w0 : (Lit.int .i64 n).wf = true) (_w1 : (Lit.int .i64 k0).wf = true) (hrow : Row .i64 w a len cap zs) :
    Calls Try.prog 8 #[.int .i64 n, .int .i64 k0, .slice a len cap] w fun e w' => e = .returned (.bool true) ∧ Below w.heap.size w w' := by
  obtain ⟨i0, hi, hz0, hz1, hz2⟩ := info_parts Try.info_ints
  obtain ⟨hlen, hm, hzl, hc0⟩ := hrow.cells
  clear hrow _w0 _w1
  unfold maxLen at hm
  have hc : Hid (∀ i, i < len → ∃ b off, a = some ⟨b, off, none⟩ ∧ w.cell? ⟨b, off + i, none⟩ = some (.int .i64 (zs.getD i 0))) := hc0
  clear hc0
  go_enter Try.func8, Try.ntmps8
  go_upto_block 0 with fail
  go_cut [7, 9, 10] (fun v t i wx => ∃ L : List Int, L.length ≤ 8 ∧ (∀ x ∈ L, 0 ≤ x ∧ x ≤ 1048576) ∧ t = .int .i64 L.sum ∧ wx.ownsRow w.heap.size 3 1 v L.length (L.map (Value.int .i64)) ∧ Below w.heap.size w wx)
  case first =>
    go_wp2_with fail
    go_loopw [7, 9, 10] (fun v t i wr => ∃ k : Nat, k ≤ len ∧ k ≤ 8 ∧ i = .int .i64 k ∧ t = .int .i64 (ownM 1048577 zs k).sum ∧ wr.ownsRow w.heap.size 3 1 v k ((ownM 1048577 zs k).map (Value.int .i64)) ∧ Below w.heap.size w wr) (fun _ _ i _ => len - (intOf i).toNat)
    case atStart => exact ⟨0, Nat.zero_le _, Nat.zero_le _, rfl, rfl, World.ownsRow_nil _ _ _ _, Below.refl _ _⟩
    case round =>
      obtain ⟨k, hk, hk8, rfl, rfl, hown, hbel⟩ := hrel
      have hfin : ∀ x ∈ ownM 1048577 zs k, 0 ≤ x ∧ x ≤ 1048576 := fun x hx => by have := ownM_range 1048577 (by decide) zs k x hx; omega
      have hfl := ownM_length 1048577 zs k (by omega)
      obtain ⟨S0, S1⟩ := sum_small (ownM 1048577 zs k) 1048576 8 (by decide) (by omega) hfin
      have S2 : (ownM 1048577 zs k).sum ≤ 8388608 := by omega
      have HF : Hid (∃ L : List Int, L.length ≤ 8 ∧ (∀ x ∈ L, 0 ≤ x ∧ x ≤ 1048576) ∧ Value.int .i64 (ownM 1048577 zs k).sum = .int .i64 L.sum ∧ wr.ownsRow w.heap.size 3 1 u7 L.length (L.map (Value.int .i64)) ∧ Below w.heap.size w wr) := ⟨ownM 1048577 zs k, by omega, hfin, rfl, by rw [hfl]; exact hown, hbel⟩
      clear hfin hfl S1
      by_cases hlt : k < len
      · by_cases h8 : k < 8
        · obtain ⟨b, off, rfl, hcell⟩ := hc.out k hlt
          have hcx : wr.cell? ⟨b, off + k, none⟩ = some (.int .i64 (zs.getD k 0)) := (hbel.cell (cell_block hcell)).trans hcell
          have hnx := ownM_next 1048577 zs k (by omega)
          generalize zs.getD k 0 = x at hcx hnx
          have hsn : (ownM 1048577 zs (k + 1)).sum = (ownM 1048577 zs k).sum + x % 1048577 := by rw [hnx, List.sum_append]; simp
          obtain ⟨y, hy⟩ : ∃ y, x % 1048577 = y := ⟨_, rfl⟩
          have y0 : 0 ≤ y := by omega
          have y1 : y ≤ 1048576 := by omega
          have HY : Hid (0 + x % (1048576 - 0 + 1) = y) := by show _ = _; omega
          have HN : Hid (ownM 1048577 zs (k + 1) = ownM 1048577 zs k ++ [y]) := by show _ = _; rw [hnx, hy]
          have HSn : Hid ((ownM 1048577 zs (k + 1)).sum = (ownM 1048577 zs k).sum + y) := by show _ = _; rw [hsn, hy]
          clear hc hnx hcell HF hsn hy
          generalize hSS : (ownM 1048577 zs k).sum = SS at *
          go_upto_region 7 with (go_at_call 19; refine (within_any _ _ _ (by omega) (by omega) (by omega) (by omega) _).mono ?_; rintro e w' ⟨rfl, hw'⟩; have hw' := hw'.symm; subst hw'; rw [HY.out])
          go_wp2_with (at_builtin; refine wpList_append_src rfl (.tmp 38) (.tmp 40) 23 rfl w.heap.size 3 i0 (.int .i64 0) 1 8 Try.underlying23 hi hz0 hz1 hz2 rfl (by decide) _ _ _ rfl (hown.alloc _) _ 1 [.int .i64 y] rfl (src_one _ _) rfl (by simp; rfl) ?c1 ?c2 ?c3 ?_)
          case c1 => unfold maxLen; omega
          case c2 => omega
          case c3 => have := hbel.size; simp; omega
          intro v' w1 hown' hgrow _
          have hb1 := below_append hbel hown hgrow
          have hown1 : w1.ownsRow w.heap.size 3 1 v' (k + 1) ((ownM 1048577 zs (k + 1)).map (Value.int .i64)) := by rw [HN.out, List.map_append]; exact hown'
          clear hown hown' hgrow hbel
          go_wp2
          go_roundw
          case rel => exact ⟨k + 1, by omega, by omega, by go_num, by rw [HSn.out], hown1, hb1⟩
          case measure => simp [intOf]; omega
        · clear hc hown hbel
          go_wp2
          go_meet
          case rel => exact HF.out
      · clear hc hown hbel
        go_wp2
        go_meet
        case rel => exact HF.out
  case rest =>
  obtain ⟨L, hL, hLr, rfl, hown, hB1⟩ := hcut
  have hR1 := own_reads hown
  clear hown hc
  obtain ⟨a1, cap1, rfl, hcap1, hm1, hzz⟩ := id hR1
  clear hzz
  obtain ⟨m, hm2⟩ : ∃ m, L.length = m := ⟨_, rfl⟩
  have hLp : ∀ x ∈ L, 0 ≤ x := fun x hx => (hLr x hx).1
  obtain ⟨T, hT⟩ : ∃ T, L.sum = T := ⟨_, rfl⟩
  obtain ⟨T0, T3⟩ := sum_small L 1048576 8 (by decide) hL hLr
  have T1 : L.sum ≤ 8388608 := by omega
  clear T3
  rw [hT] at T0 T1
  obtain ⟨A, hA⟩ : ∃ A, 0 + n % (T - 0 + 1) = A := ⟨_, rfl⟩
  have A0 : 0 ≤ A := by have := Int.emod_nonneg n (show T - 0 + 1 ≠ 0 by omega); omega
  have A1 : A ≤ T := by have := Int.emod_lt_of_pos n (show 0 < T - 0 + 1 by omega); omega
  obtain ⟨J, hJ⟩ : ∃ J, 1 + k0 % (1000 - 1 + 1) = J := ⟨_, rfl⟩
  have J0 : 1 ≤ J := by omega
  have J1 : J ≤ 1000 := by omega
  obtain ⟨Y, hY⟩ : ∃ Y, inOrd A L = Y := ⟨_, rfl⟩
  have HA : Hid (0 + n % (T - 0 + 1) = A) := hA
  have HJ : Hid (1 + k0 % (1000 - 1 + 1) = J) := hJ
  have HX : Hid (proL (T * A) (L.map (T * ·)) = L.map (A * ·)) := pro_times A T L hLp hT T1 A0 A1
  have HZ : Hid (inOrd (max (J * A) 0) (L.map (J * ·)) = Y.map (J * ·)) := by
    show _ = _
    have : 0 ≤ J * A := Int.mul_nonneg (by omega) A0
    rw [show max (J * A) 0 = J * A by omega, inOrd_times J (by omega) L A hLp, hY]
  have HY : Hid (inOrd (max A 0) L = Y) := by show _ = _; rw [show max A 0 = A by omega, hY]
  have HP : Hid (∀ k, k < m → 0 ≤ L.getD k 0 ∧ L.getD k 0 ≤ 1048576 ∧ 0 ≤ Y.getD k 0 ∧ Y.getD k 0 ≤ 1048576 ∧ (L.map (A * ·)).getD k 0 = A * L.getD k 0 ∧ (Y.map (J * ·)).getD k 0 = J * Y.getD k 0) := fun k hk => by
    have hk' : k < L.length := by omega
    have hmem : L.getD k 0 ∈ L := by simp [List.getD_eq_getElem?_getD, hk']
    obtain ⟨p1, p2, _⟩ := order_place A L A0 hLp k hk'
    rw [hY] at p1 p2
    have := hLr _ hmem
    have hk2 : k < Y.length := by rw [← hY, inOrd_length]; exact hk'
    exact ⟨this.1, this.2, p1, by omega, by simp [hk'], by simp [hk2]⟩
  have HTn : Hid (∀ (q : Int) (k : Nat), k < m → timesL q L (k + 1) = timesL q L k ++ [q * L.getD k 0]) := fun q k hk => times_next q L k (by omega)
  have HTm : Hid (∀ q, timesL q L m = L.map (q * ·)) := fun q => times_all q L m hm2
  have HLm : Hid (L.length = m ∧ Y.length = m) := ⟨hm2, by rw [← hY, inOrd_length]; exact hm2⟩
  have HR : Hid (Reads wc (.slice a1 m cap1) L) := by rw [← hm2]; exact hR1
  have HB1 : Hid (Below w.heap.size w wc) := hB1
  have bc : w.heap.size ≤ wc.heap.size := hB1.size
  rw [hm2] at hL hcap1 ⊢
  rw [hT]
  clear hR1 hm1 hm2 hLr hLp hT hA hJ hY hB1 hlen hzl hm
  go_wp2
  go_loopw [8, 47] (fun v i wr => ∃ k : Nat, k ≤ m ∧ i = .int .i64 k ∧ wr.ownsRow wc.heap.size 3 1 v k ((timesL T L k).map (Value.int .i64)) ∧ Below wc.heap.size wc wr) (fun _ i _ => m - (intOf i).toNat)
  case atStart => exact ⟨0, Nat.zero_le _, rfl, World.ownsRow_nil _ _ _ _, Below.refl _ _⟩
  case round =>
    obtain ⟨k, hk, rfl, hown, hbel⟩ := hrel
    by_cases hlt : k < m
    · obtain ⟨b, off, rfl, hcell⟩ := HR.out.cellAt k (by rw [HLm.out.1]; exact hlt)
      have hcx : wr.cell? ⟨b, off + k, none⟩ = some (.int .i64 (L.getD k 0)) := (hbel.cell (cell_block hcell)).trans hcell
      obtain ⟨p1, p2, _⟩ := HP.out k hlt
      have hnx := HTn.out T k hlt
      generalize L.getD k 0 = x at hcx hnx p1 p2
      have r1 : 0 ≤ T * x := Int.mul_nonneg T0 p1
      have r2 : T * x ≤ 8388608 * 1048576 := Int.mul_le_mul T1 p2 p1 (by decide)
      have r3 : T * x ≤ 8796093022208 := r2
      have HN : Hid (timesL T L (k + 1) = timesL T L k ++ [T * x]) := hnx
      clear r2 hnx hcell HR HP HTn HX HZ HY HLm HTm HA HJ
      go_wp2_with (at_builtin; refine wpList_append_src rfl (.tmp 51) (.tmp 55) 23 rfl wc.heap.size 3 i0 (.int .i64 0) 1 8 Try.underlying23 hi hz0 hz1 hz2 rfl (by decide) _ _ _ rfl (hown.alloc _) _ 1 [.int .i64 (T * x)] rfl (src_one _ _) rfl (by simp; rfl) ?c1 ?c2 ?c3 ?_)
      case c1 => unfold maxLen; omega
      case c2 => omega
      case c3 => have := hbel.size; simp; omega
      intro v' w1 hown' hgrow _
      have hb1 := below_append hbel hown hgrow
      have hown1 : w1.ownsRow wc.heap.size 3 1 v' (k + 1) ((timesL T L (k + 1)).map (Value.int .i64)) := by rw [HN.out, List.map_append]; exact hown'
      clear hown hown' hgrow hbel
      go_wp2
      go_roundw
      case rel => exact ⟨k + 1, by omega, by go_num, hown1, hb1⟩
      case measure => simp [intOf]; omega
    · obtain rfl : k = m := by omega
      have hown2 : wr.ownsRow wc.heap.size 3 1 u8 (L.map (T * ·)).length ((L.map (T * ·)).map (Value.int .i64)) := by
        rw [HTm.out T] at hown
        rw [List.length_map, HLm.out.1]
        exact hown
      have hR2 := own_reads hown2
      obtain ⟨a2, cap2, e2, hcap2, _, hzz⟩ := id hR2
      clear hzz hown hown2
      rw [List.length_map, HLm.out.1] at e2 hcap2
      subst e2
      have HPr : Hid (Calls Try.prog 11 #[.int .i64 (T * A), .slice a2 k cap2] wr fun e w' => ∃ g, wr.heap.size ≤ g ∧ e = .returned (.slice (some ⟨g, 0, none⟩) k k) ∧ Reads w' (.slice (some ⟨g, 0, none⟩) k k) (L.map (A * ·)) ∧ Below wr.heap.size wr w') := by
        have := pro_b (T * A) _ _ wr hR2 (by rw [List.length_map, HLm.out.1]; omega)
        rw [List.length_map, HLm.out.1, HX.out] at this
        exact this
      have HIn : Hid (∀ W, Below wc.heap.size wc W → Calls Try.prog 10 #[.int .i64 A, .slice a1 k cap1] W fun e w' => ∃ g, W.heap.size ≤ g ∧ e = .returned (.slice (some ⟨g, 0, none⟩) k k) ∧ Reads w' (.slice (some ⟨g, 0, none⟩) k k) Y ∧ Below W.heap.size W w') := fun W hW => by
        have := inOrder_b A _ L W (HR.out.below hW) (by rw [HLm.out.1]; omega) (by omega)
        rw [HLm.out.1, HY.out] at this
        exact this
      have HBr : Hid (Below wc.heap.size wc wr) := hbel
      have r1 : 0 ≤ T * A := Int.mul_nonneg T0 A0
      have r2 : T * A ≤ 8388608 * 8388608 := Int.mul_le_mul T1 (by omega) A0 (by decide)
      have r3 : T * A ≤ 70368744177664 := r2
      clear r2 hR2 hbel
      have hp := HPr.out
      go_upto_region 16 with (first
        | (go_at_call 19; refine (within_any _ _ _ (by omega) (by omega) (by omega) (by omega) _).mono ?_; rintro e w' ⟨rfl, hw'⟩; have hw' := hw'.symm; subst hw'; rw [HA.out])
        | (go_at_call 11; refine hp.mono ?_; rintro e w4 ⟨gx, _, rfl, rx, b4⟩))
      have hin := HIn.out w4 (below_then HBr.out b4)
      clear hp HPr HIn
      go_upto_region 18 with (first
        | (go_at_call 10; refine hin.mono ?_; rintro e w5 ⟨gy, _, rfl, ry, b5⟩)
        | (go_at_call 19; refine (within_any _ _ _ (by omega) (by omega) (by omega) (by omega) _).mono ?_; rintro e w' ⟨rfl, hw'⟩; have hw' := hw'.symm; subst hw'; rw [HJ.out]))
      have HR5 : Hid (Reads w5 (.slice a1 k cap1) L) := HR.out.below (below_then (below_then HBr.out b4) b5)
      have HX5 : Hid (Reads w5 (.slice (some ⟨gx, 0, none⟩) k k) (L.map (A * ·))) := rx.below b5
      have HY5 : Hid (Reads w5 (.slice (some ⟨gy, 0, none⟩) k k) Y) := ry
      have HB5 : Hid (Below w.heap.size w w5) := below_then HB1.out (below_then (below_then HBr.out b4) b5)
      have s5 := HB5.out.size
      clear hin rx ry b4 b5 HBr HR HB1 HX HY r1 r3 HA HJ bc
      go_wp2
      go_loopw [18, 73] (fun v i wr => ∃ j : Nat, j ≤ k ∧ i = .int .i64 j ∧ wr.ownsRow w5.heap.size 3 1 v j ((timesL J L j).map (Value.int .i64)) ∧ Below w5.heap.size w5 wr) (fun _ i _ => k - (intOf i).toNat)
      case atStart => exact ⟨0, Nat.zero_le _, rfl, World.ownsRow_nil _ _ _ _, Below.refl _ _⟩
      case round =>
        rename_i wq
        obtain ⟨j, hj, rfl, hown, hbel⟩ := hrel
        by_cases hlt : j < k
        · obtain ⟨b, off, rfl, hcell⟩ := HR5.out.cellAt j (by rw [HLm.out.1]; exact hlt)
          have hcx : wr.cell? ⟨b, off + j, none⟩ = some (.int .i64 (L.getD j 0)) := (hbel.cell (cell_block hcell)).trans hcell
          obtain ⟨p1, p2, _⟩ := HP.out j hlt
          have hnx := HTn.out J j hlt
          generalize L.getD j 0 = x at hcx hnx p1 p2
          have r1 : 0 ≤ J * x := Int.mul_nonneg (by omega) p1
          have r2 : J * x ≤ 1000 * 1048576 := Int.mul_le_mul J1 p2 p1 (by decide)
          have r3 : J * x ≤ 1048576000 := r2
          have HN : Hid (timesL J L (j + 1) = timesL J L j ++ [J * x]) := hnx
          clear r2 hnx hcell HR5 HX5 HY5 HP HTn HZ HLm HTm HB5
          go_wp2_with (at_builtin; refine wpList_append_src rfl (.tmp 77) (.tmp 81) 23 rfl w5.heap.size 3 i0 (.int .i64 0) 1 8 Try.underlying23 hi hz0 hz1 hz2 rfl (by decide) _ _ _ rfl (hown.alloc _) _ 1 [.int .i64 (J * x)] rfl (src_one _ _) rfl (by simp; rfl) ?c1 ?c2 ?c3 ?_)
          case c1 => unfold maxLen; omega
          case c2 => omega
          case c3 => have := hbel.size; simp; omega
          intro v' w6 hown' hgrow _
          have hb1 := below_append hbel hown hgrow
          have hown1 : w6.ownsRow w5.heap.size 3 1 v' (j + 1) ((timesL J L (j + 1)).map (Value.int .i64)) := by rw [HN.out, List.map_append]; exact hown'
          clear hown hown' hgrow hbel
          go_wp2
          go_roundw
          case rel => exact ⟨j + 1, by omega, by go_num, hown1, hb1⟩
          case measure => simp [intOf]; omega
        · obtain rfl : j = k := by omega
          have hown2 : wr.ownsRow w5.heap.size 3 1 u18 (L.map (J * ·)).length ((L.map (J * ·)).map (Value.int .i64)) := by
            rw [HTm.out J] at hown
            rw [List.length_map, HLm.out.1]
            exact hown
          have hR2 := own_reads hown2
          obtain ⟨a3, cap3, e3, hcap3, _, hzz⟩ := id hR2
          clear hzz hown hown2
          rw [List.length_map, HLm.out.1] at e3 hcap3
          subst e3
          have r1 : 0 ≤ J * A := Int.mul_nonneg (by omega) A0
          have r2 : J * A ≤ 1000 * 8388608 := Int.mul_le_mul J1 (by omega) A0 (by decide)
          have r3 : J * A ≤ 8388608000 := r2
          have hz : Calls Try.prog 10 #[.int .i64 (J * A), .slice a3 j cap3] wr fun e w' => ∃ g, wr.heap.size ≤ g ∧ e = .returned (.slice (some ⟨g, 0, none⟩) j j) ∧ Reads w' (.slice (some ⟨g, 0, none⟩) j j) (Y.map (J * ·)) ∧ Below wr.heap.size wr w' := by
            have := inOrder_b (J * A) _ _ wr hR2 (by rw [List.length_map, HLm.out.1]; omega) (by omega)
            rw [List.length_map, HLm.out.1, HZ.out] at this
            exact this
          have HBr : Hid (Below w5.heap.size w5 wr) := hbel
          clear r2 hR2 hbel HZ HTn HTm
          go_upto_region 25 with (go_at_call 10; refine hz.mono ?_; rintro e w7 ⟨gz, _, rfl, rz, b7⟩)
          have b57 := below_then HBr.out b7
          have HRC : Hid (Reads w7 (.slice a1 j cap1) L) := HR5.out.below b57
          have HRX : Hid (Reads w7 (.slice (some ⟨gx, 0, none⟩) j j) (L.map (A * ·))) := HX5.out.below b57
          have HRY : Hid (Reads w7 (.slice (some ⟨gy, 0, none⟩) j j) Y) := HY5.out.below b57
          have HRZ : Hid (Reads w7 (.slice (some ⟨gz, 0, none⟩) j j) (Y.map (J * ·))) := rz
          have HB7 : Hid (Below w.heap.size w w7) := below_then HB5.out b57
          have HLx : Hid ((L.map (A * ·)).length = j ∧ (Y.map (J * ·)).length = j) := ⟨by rw [List.length_map, HLm.out.1], by rw [List.length_map, HLm.out.2]⟩
          clear hz r1 r3 b7 b57 rz HR5 HX5 HY5 HB5 HBr
          go_wp2
          go_loopw [110] (fun i wr => ∃ k : Nat, k ≤ j ∧ i = .int .i64 k ∧ ∃ q, wr = w7.drewN q) (fun i _ => j - (intOf i).toNat)
          case atStart => exact ⟨0, Nat.zero_le _, rfl, 0, rfl⟩
          case round =>
            obtain ⟨k, hk, rfl, q, rfl⟩ := hrel
            by_cases hlt : k < j
            · obtain ⟨b, off, rfl, hc⟩ := HRC.out.cellAt k (by rw [HLm.out.1]; exact hlt)
              obtain ⟨_, _, ex, hx⟩ := HRX.out.cellAt k (by rw [HLx.out.1]; exact hlt)
              obtain ⟨_, _, ey, hy⟩ := HRY.out.cellAt k (by rw [HLm.out.2]; exact hlt)
              obtain ⟨_, _, ez, hz⟩ := HRZ.out.cellAt k (by rw [HLx.out.2]; exact hlt)
              simp only [Option.some.injEq, Addr.mk.injEq] at ex ey ez
              rw [← ex.1, ← ex.2.1, Nat.zero_add] at hx
              rw [← ey.1, ← ey.2.1, Nat.zero_add] at hy
              rw [← ez.1, ← ez.2.1, Nat.zero_add] at hz
              obtain ⟨p1, p2, p3, p4, p5, p6⟩ := HP.out k hlt
              rw [p5] at hx
              rw [p6] at hz
              clear p5 p6 ex ey ez
              generalize L.getD k 0 = c at *
              generalize Y.getD k 0 = y at *
              have r1 : 0 ≤ A * c := Int.mul_nonneg A0 p1
              have r2 : A * c ≤ 8388608 * 1048576 := Int.mul_le_mul (by omega) p2 p1 (by decide)
              have r3 : A * c ≤ 8796093022208 := r2
              have r4 : 0 ≤ J * y := Int.mul_nonneg (by omega) p3
              have r5 : J * y ≤ 1000 * 1048576 := Int.mul_le_mul J1 p4 p3 (by decide)
              have r6 : J * y ≤ 1048576000 := r5
              have l0 : (0 : Int) ≤ (k : Int) := by omega
              have l1 : (k : Int) < (j : Int) := by omega
              clear r2 r5
              go_wp2
              go_quiet (fail)
              go_wp2
              go_roundw
              case rel => exact ⟨k + 1, by omega, by go_num, _, rfl⟩
              case measure => simp [intOf]; omega
            · refine wp_letter (fun wx => Below w7.heap.size w7 wx) (below_draws (Below.refl _ _) q) ?_
              rintro W bW
              have hB : Below w.heap.size w W := below_then HB7.out bW
              clear HRX HRC HRY HRZ HP HLm HLx bW HB7
              go_wp2_with (go_at_call 3; refine (shareRuns_any _).mono ?_; rintro e w' ⟨rfl, b4⟩)
              go_ret
              exact ⟨rfl, below_then hB b4⟩
end Go.Proofs.Ytmchjfiaphkpdaa
