/-
  Package share: the walk of InOrder.
-/
import Derived.Test.YtmchjfiaphkpdaaShareP
import Derived.Test.YtmchjfiaphkpdaaBookMem
namespace Go.Proofs.Ytmchjfiaphkpdaa
open Go.RowKit

set_option maxHeartbeats 1000000 in
theorem inOrder_any (n : Int) (v : Value) (zs : List Int) (w : World) (h : Reads w v zs) (hb : zs.length ≤ 1000000) (hn : n ≤ 9223372036854775807) :
    Calls Try.prog 10 #[.int .i64 n, v] w fun e w' => e = .returned (.slice (some ⟨w.heap.size, 0, none⟩) zs.length zs.length) ∧
      w'.ownsRow w.heap.size 3 1 (.slice (some ⟨w.heap.size, 0, none⟩) zs.length zs.length) zs.length ((inOrd (max n 0) zs).map (Value.int .i64)) ∧ Below w.heap.size w w' := by
  obtain ⟨i0, hi, hz0, hz1, hz2⟩ := info_parts Try.info_ints
  obtain ⟨a, cap, rfl, hcap, hm, hz⟩ := id h
  obtain ⟨l, hl⟩ : ∃ l, zs.length = l := ⟨_, rfl⟩
  obtain ⟨N, hN⟩ : ∃ N, max n 0 = N := ⟨_, rfl⟩
  have N0 : 0 ≤ N := by omega
  have N1 : N ≤ 9223372036854775807 := by omega
  have HR : Hid (∀ k, k ≤ l → 0 ≤ ordLeft N zs k ∧ ordLeft N zs k ≤ N) := fun k hk => ordLeft_range N zs N0 k (by omega)
  have HX : Hid (∀ k, k < l → inOrd N (zs.take (k + 1)) = inOrd N (zs.take k) ++ [min (ordLeft N zs k) (max (zs.getD k 0) 0)] ∧ ordLeft N zs (k + 1) = ordLeft N zs k - min (ordLeft N zs k) (max (zs.getD k 0) 0)) := fun k hk => ⟨inOrd_next N zs k (by omega), ordLeft_next N zs k (by omega)⟩
  have HF : Hid (inOrd N (zs.take l) = inOrd N zs) := by show _ = _; rw [List.take_of_length_le (by omega)]
  have HL : Hid (∀ k, k ≤ l → (inOrd N (zs.take k)).length = k) := fun k hk => by rw [inOrd_length, List.length_take]; omega
  have H0 : Hid (ordLeft N zs 0 = N) := by simp [Hid, ordLeft, inOrd]
  have hc : ∀ k, k < l → ∃ b off, a = some ⟨b, off, none⟩ ∧ w.cell? ⟨b, off + k, none⟩ = some (.int .i64 (zs.getD k 0)) := fun k hk => by
    rcases hz with rfl | ⟨b, off, rfl, hc⟩
    · simp at hl; omega
    · exact ⟨b, off, rfl, hc k (by omega)⟩
  have HC : Hid (∀ k, k < l → ∃ b off, a = some ⟨b, off, none⟩ ∧ w.cell? ⟨b, off + k, none⟩ = some (.int .i64 (zs.getD k 0))) := hc
  have HMax : Hid (max n 0 = N) := hN
  rw [hl] at h hb hcap ⊢
  rw [hN]
  clear hc hz hl hm h hN
  go_enter Try.func10, Try.ntmps10
  go_upto_region 2 with (at_make; refine wpList_make_full _ rfl _ _ 23 rfl w.heap.size 3 i0 (.int .i64 0) 1 Try.underlying23 hi hz0 hz1 .i64 .i64 _ _ l rfl rfl (by simp) (by simp) (by rw [hz2]; omega) (by unfold maxLen; omega) (Nat.le_refl _) ?_; intro w1 o1 g1)
  have b1 : Below w.heap.size w w1 := below_grown (Below.refl _ _) g1 (fun k hk => by simp at hk)
  rw [made_zeros, ← fillAt_nil] at o1
  clear g1
  go_cut [6] (fun t wx => t = .int .i64 N ∧ w1 = wx)
  case first =>
    have hmx := HMax.out
    by_cases g : 0 ≤ n
    · obtain rfl : n = N := by omega
      go_wp2
      go_meet
      case rel => exact ⟨rfl, rfl⟩
    · obtain rfl : N = 0 := by omega
      go_wp2
      go_meet
      case rel => exact ⟨rfl, rfl⟩
  case rest =>
  obtain ⟨rfl, rfl⟩ := hcut
  go_wp2
  go_loopw [6, 16] (fun t i wr => ∃ k : Nat, k ≤ l ∧ i = .int .i64 k ∧ t = .int .i64 (ordLeft N zs k) ∧ wr.ownsRow w.heap.size 3 1 (.slice (some ⟨w.heap.size, 0, none⟩) l l) l ((fillAt (inOrd N (zs.take k)) l).map (Value.int .i64)) ∧ Below w.heap.size w wr) (fun _ i _ => l - (intOf i).toNat)
  case atStart => exact ⟨0, Nat.zero_le _, rfl, by rw [H0.out], o1, b1⟩
  case round =>
    obtain ⟨k, hk, rfl, rfl, ho, hbl⟩ := hrel
    by_cases hlt : k < l
    · obtain ⟨b, off, rfl, hcell⟩ := HC.out k hlt
      have hcx : wr.cell? ⟨b, off + k, none⟩ = some (.int .i64 (zs.getD k 0)) := (hbl.cell (cell_block hcell)).trans hcell
      obtain ⟨m0, m1⟩ := HR.out k hk
      obtain ⟨e1, e2⟩ := HX.out k hlt
      generalize zs.getD k 0 = x at hcx e1 e2
      generalize ordLeft N zs k = M at m0 m1 e1 e2
      obtain ⟨s, hs⟩ : ∃ s, min M (max x 0) = s := ⟨_, rfl⟩
      rw [hs] at e1 e2
      have s0 : 0 ≤ s := by omega
      have s1 : s ≤ M := by omega
      have hst := ho.stored k (.int .i64 s)
      rw [fill_next _ l s k (HL.out k hk) hlt, ← e1] at hst
      have hcell2 : wr.cell? ⟨w.heap.size, k, none⟩ = some (((fillAt (inOrd N (zs.take k)) l).map (Value.int .i64)).getD k undef) := by
        have hfl := fillAt_length (inOrd N (zs.take k)) l (by rw [HL.out k hk]; omega)
        have := ho.cellAt k (by omega)
        rw [this, List.getElem?_eq_getElem (by simp [hfl]; omega)]
        rw [List.getD_eq_getElem?_getD, List.getElem?_eq_getElem (by simp [hfl]; omega)]
        rfl
      generalize ((fillAt (inOrd N (zs.take k)) l).map (Value.int .i64)).getD k undef = y at hcell2
      have hfr := ho.frozenAt k
      have HST : Hid ((wr.setCell ⟨w.heap.size, k, none⟩ (.int .i64 s)).ownsRow w.heap.size 3 1 (.slice (some ⟨w.heap.size, 0, none⟩) l l) l ((fillAt (inOrd N (zs.take (k + 1))) l).map (Value.int .i64))) := hst.1
      have HB2 : Hid (Below w.heap.size w wr) := hbl
      have HE : Hid (ordLeft N zs (k + 1) = M - s) := e2
      have HS : Hid (min M (max x 0) = s) := hs
      clear hst ho hbl e1 e2 hs hcell o1 b1
      have hmn := HS.out
      clear HS
      have hcase : (0 ≤ x ∧ x < M ∧ s = x) ∨ (0 ≤ x ∧ M ≤ x ∧ s = M) ∨ (x < 0 ∧ 0 < M ∧ s = 0) ∨ (x < 0 ∧ M = 0 ∧ s = 0) := by omega
      clear hmn
      rcases hcase with ⟨g1, g2, rfl⟩ | ⟨g1, g2, rfl⟩ | ⟨g1, g2, rfl⟩ | ⟨g1, rfl, rfl⟩
      all_goals
        go_wp2
        go_roundw
        case rel => exact ⟨k + 1, by omega, by go_num, congrArg (Value.int .i64) (by have := HE.out; omega), HST.out, HB2.out.setCell (p := ⟨w.heap.size, k, none⟩) (Nat.le_refl _) _⟩
        case measure => simp [intOf]; omega
    · obtain rfl : k = l := by omega
      have HO : Hid (wr.ownsRow w.heap.size 3 1 (.slice (some ⟨w.heap.size, 0, none⟩) k k) k ((inOrd N zs).map (Value.int .i64))) := by
        rw [fillAt_full _ k (HL.out k hk), HF.out] at ho
        exact ho
      have HB2 : Hid (Below w.heap.size w wr) := hbl
      clear ho hbl o1 b1
      go_wp2
      go_ret
      exact ⟨rfl, HO.out, HB2.out⟩

end Go.Proofs.Ytmchjfiaphkpdaa
