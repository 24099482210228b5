/-
  The walk of TapeRight.
-/
import Derived.Test.YtibakfhalabdaaaTapeRunsWalk
import Derived.Test.YtibakfhalabdaaaTapeTurn
namespace Go.Proofs.Ytibakfhalabdaaa
open Go.RowKit


set_option maxRecDepth 1000000 in
set_option maxHeartbeats 4000000 in
theorem tapeRight_any (v0 : Value) (c1 c2 c3 : Int) (w : World) (w0 : TapeIn w v0) :
    Calls Try.prog 4 #[v0, .int .i64 c1, .int .i64 c2, .int .i64 c3] w fun e w' => e = .returned (.bool true) ∧ Below w.heap.size w w' := by
  obtain ⟨i0, hi, hz0, hz1, hz2⟩ := info_parts Try.info_line
  obtain ⟨a0, a1, a2, a3, a4, a5, _, _, _, _, _, _, rfl, _⟩ := id w0
  have T0 : Hid (TapeIn w (.agg #[a0, a1, a2, a3, a4, a5])) := w0
  clear w0
  go_enter Try.func4, Try.ntmps4
  go_upto_region 2 with (go_at_call 10; refine (lines_any _ _ (T0.out.below (below_alloc (Below.refl _ _) _))).mono ?_; rintro e wl ⟨v, xs, rfl, hl, hr, ho, bn⟩)
  have bW : Below w.heap.size w wl := below_then (below_alloc (Below.refl _ _) _) bn
  have hlies : Lies 7 LineT.f wl v xs := own_lies LineT.len ho rfl
  obtain ⟨a, cap, rfl, _, hcm, hz, _⟩ := id hlies
  have hlen := hlies.len
  obtain ⟨n, hn⟩ : ∃ n, xs.length = n := ⟨_, rfl⟩
  rw [hn] at hl hlen hlies ⊢
  unfold maxLen at hlen
  have HL : Hid (Lies 7 LineT.f wl (.slice a n cap) xs) := hlies
  have HN : Hid (xs.length = n) := hn
  have HR : Hid (rightFrom 0 xs = true) := hr
  have R1 : Hid (rightT xs = true) := rightT_yes (by rw [hn]; exact hl) hr
  have hm : n ≤ 9223372036854775807 := by omega
  clear hr ho bn hlies hcm hz hlen hn
  have N0 : Hid (rightT [] = true) := rfl
  have hb : Below wl.heap.size wl wl := Below.refl _ _
  go_upto_region 4 with (first
    | (go_at_call_of 8 (Value.slice a n cap); refine (tright_any _ xs _ HL.out).mono ?_; rintro e w1 ⟨rfl, d1⟩; rw [R1.out])
    | (go_at_call 8; refine (tright_any _ [] _ (Lies.nil _ _ _)).mono ?_; rintro e w2 ⟨rfl, d2⟩; rw [N0.out]))
  have b2 : Below wl.heap.size wl w2 := below_then d1 d2
  have HLw : Hid (Lies 7 LineT.f w2 (.slice a n cap) xs) := HL.out.below b2
  clear d1 hb
  by_cases h0 : n = 0
  · subst h0
    go_wp2_with (go_at_call 3; refine (tapeRuns_any _).mono ?_; rintro e w3 ⟨rfl, d3⟩)
    go_ret
    exact ⟨rfl, below_then bW (below_then b2 d3)⟩
  have hn1 : 1 ≤ n := by omega
  obtain ⟨iN, hiN0⟩ := Int.eq_ofNat_of_zero_le (Int.emod_nonneg c2 (b := (n : Int) - 1 + 1) (by omega))
  have hiN : iN < n := by
    have := Int.emod_lt_of_pos c2 (b := (n : Int) - 1 + 1) (by omega)
    omega
  have E1 : Hid (c2 % ((n : Int) - 1 + 1) = (iN : Int)) := hiN0
  obtain ⟨t, ht⟩ : ∃ t, c3 % (1099511627776 + 1) = t := ⟨_, rfl⟩
  have t0 : 0 ≤ t := by have := Int.emod_nonneg c3 (b := 1099511627776 + 1) (by omega); omega
  have t1 : t ≤ 1099511627776 := by have := Int.emod_lt_of_pos c3 (b := 1099511627776 + 1) (by omega); omega
  have E2 : Hid (c3 % (1099511627776 + 1) = t) := ht
  obtain ⟨M, hM⟩ := Int.eq_ofNat_of_zero_le (Int.emod_nonneg c1 (b := 11 + 1) (by omega))
  have hM11 : M ≤ 11 := by
    have := Int.emod_lt_of_pos c1 (b := 11 + 1) (by omega)
    omega
  have E3 : Hid (c1 % (11 + 1) = (M : Int)) := hM
  clear hiN0 ht hM
  have u1 : IntKind.i64.wrap ((n : Int) - 1) = (n : Int) - 1 := wrap_in _ (by omega) (by omega)
  go_upto_region 8 with (first
    | (go_at_call_of 11 (Value.int .i64 c2); refine (win_to (by omega) (by omega) E1.out _).mono ?_; rintro e wq ⟨rfl, hq⟩; have hq := hq.symm; subst hq)
    | (go_at_call_of 11 (Value.int .i64 c3); refine (win_to (by omega) (by omega) E2.out _).mono ?_; rintro e wq ⟨rfl, hq⟩; have hq := hq.symm; subst hq))
  obtain ⟨N1, hN1⟩ : ∃ N, 1 + t = N := ⟨_, rfl⟩
  rw [hN1]
  have N0' : 1 ≤ N1 := by omega
  have N2' : N1 ≤ 1099511627777 := by omega
  clear hN1 t0 t1
  have O0 : Hid ((w2.alloc (.cells #[] 23)).ownsRow w2.heap.size 23 7 (.slice (some ⟨w2.heap.size, 0, none⟩) 0 0) 0 []) := World.ownsRow_lit (base := w2.heap.size) (size := 7) w2 #[] 0 (Nat.le_refl _) (by unfold maxLen; omega) rfl
  have B0 : Hid (Below w2.heap.size w2 (w2.alloc (.cells #[] 23))) := (Below.refl _ _).alloc (Nat.le_refl _) _
  have SX : Hid (Src (w2.alloc (.cells #[] 23)) (.slice a n cap) n (xs.flatMap LineT.f)) := by
    have := (HLw.out.below B0.out).src LineT.len (by omega)
    rw [HN.out] at this
    exact this
  have SL : Hid ((xs.flatMap LineT.f).length = n * 7) := by show _ = _; rw [flat_length LineT.len, HN.out]
  go_upto_region 9 with (at_builtin; refine wpList_append_src rfl (.tmp 36) (.tmp 37) 24 rfl w2.heap.size 23 i0 (.agg #[.int .i64 0, .int .i64 0, .int .i64 0, .int .i64 0, .int .i64 0, .int .i64 0, .bool false]) 7 56 Try.underlying24 hi hz0 hz1 hz2 rfl (by decide) (.slice (some ⟨w2.heap.size, 0, none⟩) 0 0) 0 [] rfl O0.out (.slice a n cap) n (xs.flatMap LineT.f) rfl SX.out SL.out (flat_one LineT.one) (by unfold maxLen; omega) (by omega) B0.out.size ?_; intro v5 w5 o5 g5 l5; have B5 : Hid (Below w2.heap.size w2 w5) := (below_grown B0.out g5 (fun k h => by simp [Value.ownBlock] at h; omega)); have O5 : Hid (w5.ownsRow w2.heap.size 23 7 v5 n (xs.flatMap LineT.f)) := (by have := o5; rw [Nat.zero_add, List.nil_append] at this; exact this); clear o5 g5 l5)
  clear O0 B0 SX SL
  have hB := B5.out
  have O6 := O5.out
  clear B5 O5
  obtain ⟨g, cp, e5, hg, hcp⟩ : ∃ g cp, v5 = .slice (some ⟨g, 0, none⟩) n cp ∧ w2.heap.size ≤ g ∧ n ≤ cp := by
    rcases O6.2 with ⟨_, h2⟩ | ⟨g, cp, cur, h1, h2, _, h3, _⟩
    · exact absurd h2 (by omega)
    · exact ⟨g, cp, h1, h2, h3⟩
  subst e5
  have HO : Hid (w5.ownsRow w2.heap.size 23 7 (.slice (some ⟨g, 0, none⟩) n cp) n (xs.flatMap LineT.f)) := O6
  clear O6
  obtain ⟨x, hx⟩ : ∃ x, xs[iN]? = some x := ⟨_, List.getElem?_eq_getElem (by rw [HN.out]; exact hiN)⟩
  obtain ⟨id, pr, pp, it, rc, lt, df⟩ := x
  have k1 : (iN : Int) < (n : Int) := by omega
  have k2 : (0 : Int) ≤ (iN : Int) := by omega
  go_upto_block 0 with (go_at_call 11; refine (win_to (by omega) (by omega) E3.out _).mono ?_; rintro e wq ⟨rfl, hq⟩; have hq := hq.symm; subst hq)
  go_cut [12] (fun v wx => ∃ ys, Lies 7 LineT.f wx v ys ∧ rightT ys = false ∧ Below w2.heap.size w2 wx)
  case first =>
    rcases (by omega : M = 0 ∨ M = 1 ∨ M = 2 ∨ M = 3 ∨ M = 4 ∨ M = 5 ∨ M = 6 ∨ M = 7 ∨ M = 8 ∨ M = 9 ∨ M = 10 ∨ M = 11) with hMM | hMM | hMM | hMM | hMM | hMM | hMM | hMM | hMM | hMM | hMM | hMM
    · (subst hMM; rw [show ((0 : Nat) : Int) = 0 from rfl])
      rcases Nat.eq_zero_or_pos iN with z | z
      · subst z
        have y0 : w5.cell? ⟨g, 0, none⟩ = some (.int .i64 id) := own_at HO.out HN.out hx (j := 0) rfl
        have f0 : w5.frozen? ⟨g, 0, none⟩ = false := HO.out.frozenAt 0
        go_wp2_with fail
        go_meet
        case rel => exact ⟨xs.set 0 (⟨-N1, pr, pp, it, rc, lt, df⟩ : LineT), own_lies LineT.len (own_turn HO.out hx (j := 0) rfl (by omega)) (by simp [HN.out]), rightT_no (right_low xs 0 _ (by rw [HN.out]; exact hiN) (by simp only; omega)), hB.setCell hg _⟩
      · obtain ⟨k, rfl⟩ : ∃ k, iN = k + 1 := ⟨iN - 1, by omega⟩
        obtain ⟨y, hy⟩ : ∃ y, xs[k]? = some y := ⟨_, List.getElem?_eq_getElem (by rw [HN.out]; omega)⟩
        have y0 : w5.cell? ⟨g, (k + 1) * 7, none⟩ = some (.int .i64 id) := own_at HO.out HN.out hx (j := 0) rfl
        have f0 : w5.frozen? ⟨g, (k + 1) * 7, none⟩ = false := HO.out.frozenAt ((k + 1) * 7)
        have y1 : w5.cell? ⟨g, k * 7, none⟩ = some (.int .i64 y.id) := own_at HO.out HN.out hy (j := 0) rfl
        have hk1 : ((k + 1 : Nat) : Int) - 1 = (k : Int) := by omega
        go_wp2_with fail
        go_meet
        case rel => exact ⟨xs.set (k + 1) (⟨y.id, pr, pp, it, rc, lt, df⟩ : LineT), own_lies LineT.len (by
          have h1 := own_turn HO.out hx (x' := ⟨-N1, pr, pp, it, rc, lt, df⟩) (j := 0) rfl (by omega)
          have h2 := own_turn h1 (i := k + 1) (x := ⟨-N1, pr, pp, it, rc, lt, df⟩) (x' := ⟨y.id, pr, pp, it, rc, lt, df⟩) (j := 0) (u := .int .i64 y.id) (by rw [List.getElem?_set_self (by rw [HN.out]; exact hiN)]) rfl (by omega)
          rw [List.set_set] at h2
          exact h2) (by simp [HN.out]), rightT_no (right_same xs 0 k _ y (by rw [HN.out]; exact hiN) hy (Int.le_refl _)), (hB.setCell hg _).setCell hg _⟩
    · (subst hMM; rw [show ((1 : Nat) : Int) = 1 from rfl])
      have y0 := own_at HO.out HN.out hx (j := 1) rfl
      have f0 := HO.out.frozenAt (iN * 7 + 1)
      go_wp2_with fail
      go_meet
      case rel => exact ⟨xs.set iN (⟨id, 1099511627776 + N1, pp, it, rc, lt, df⟩ : LineT), own_lies LineT.len (own_turn HO.out hx rfl (by omega)) (by simp [HN.out]), turn_bad (by rw [HN.out]; exact hiN) (by rintro ⟨⟨h1, h2, h3, h4, h5, h6, h7, h8⟩, h9, h10⟩; simp only at h1 h2 h3 h4 h5 h6 h7 h8 h9 h10; omega), hB.setCell hg _⟩
    · (subst hMM; rw [show ((2 : Nat) : Int) = 2 from rfl])
      have y0 := own_at HO.out HN.out hx (j := 1) rfl
      have f0 := HO.out.frozenAt (iN * 7 + 1)
      go_wp2_with fail
      go_meet
      case rel => exact ⟨xs.set iN (⟨id, -N1, pp, it, rc, lt, df⟩ : LineT), own_lies LineT.len (own_turn HO.out hx rfl (by omega)) (by simp [HN.out]), turn_bad (by rw [HN.out]; exact hiN) (by rintro ⟨⟨h1, h2, h3, h4, h5, h6, h7, h8⟩, h9, h10⟩; simp only at h1 h2 h3 h4 h5 h6 h7 h8 h9 h10; omega), hB.setCell hg _⟩
    · (subst hMM; rw [show ((3 : Nat) : Int) = 3 from rfl])
      have y0 := own_at HO.out HN.out hx (j := 2) rfl
      have f0 := HO.out.frozenAt (iN * 7 + 2)
      go_wp2_with fail
      go_meet
      case rel => exact ⟨xs.set iN (⟨id, pr, 1099511627776 + N1, it, rc, lt, df⟩ : LineT), own_lies LineT.len (own_turn HO.out hx rfl (by omega)) (by simp [HN.out]), turn_bad (by rw [HN.out]; exact hiN) (by rintro ⟨⟨h1, h2, h3, h4, h5, h6, h7, h8⟩, h9, h10⟩; simp only at h1 h2 h3 h4 h5 h6 h7 h8 h9 h10; omega), hB.setCell hg _⟩
    · (subst hMM; rw [show ((4 : Nat) : Int) = 4 from rfl])
      have y0 := own_at HO.out HN.out hx (j := 2) rfl
      have f0 := HO.out.frozenAt (iN * 7 + 2)
      go_wp2_with fail
      go_meet
      case rel => exact ⟨xs.set iN (⟨id, pr, -N1, it, rc, lt, df⟩ : LineT), own_lies LineT.len (own_turn HO.out hx rfl (by omega)) (by simp [HN.out]), turn_bad (by rw [HN.out]; exact hiN) (by rintro ⟨⟨h1, h2, h3, h4, h5, h6, h7, h8⟩, h9, h10⟩; simp only at h1 h2 h3 h4 h5 h6 h7 h8 h9 h10; omega), hB.setCell hg _⟩
    · (subst hMM; rw [show ((5 : Nat) : Int) = 5 from rfl])
      have y0 := own_at HO.out HN.out hx (j := 3) rfl
      have f0 := HO.out.frozenAt (iN * 7 + 3)
      go_wp2_with fail
      go_meet
      case rel => exact ⟨xs.set iN (⟨id, pr, pp, 1099511627776 + N1, rc, lt, df⟩ : LineT), own_lies LineT.len (own_turn HO.out hx rfl (by omega)) (by simp [HN.out]), turn_bad (by rw [HN.out]; exact hiN) (by rintro ⟨⟨h1, h2, h3, h4, h5, h6, h7, h8⟩, h9, h10⟩; simp only at h1 h2 h3 h4 h5 h6 h7 h8 h9 h10; omega), hB.setCell hg _⟩
    · (subst hMM; rw [show ((6 : Nat) : Int) = 6 from rfl])
      have y0 := own_at HO.out HN.out hx (j := 3) rfl
      have f0 := HO.out.frozenAt (iN * 7 + 3)
      go_wp2_with fail
      go_meet
      case rel => exact ⟨xs.set iN (⟨id, pr, pp, -N1, rc, lt, df⟩ : LineT), own_lies LineT.len (own_turn HO.out hx rfl (by omega)) (by simp [HN.out]), turn_bad (by rw [HN.out]; exact hiN) (by rintro ⟨⟨h1, h2, h3, h4, h5, h6, h7, h8⟩, h9, h10⟩; simp only at h1 h2 h3 h4 h5 h6 h7 h8 h9 h10; omega), hB.setCell hg _⟩
    · (subst hMM; rw [show ((7 : Nat) : Int) = 7 from rfl])
      have y0 := own_at HO.out HN.out hx (j := 4) rfl
      have f0 := HO.out.frozenAt (iN * 7 + 4)
      go_wp2_with fail
      go_meet
      case rel => exact ⟨xs.set iN (⟨id, pr, pp, it, 1099511627776 + N1, lt, df⟩ : LineT), own_lies LineT.len (own_turn HO.out hx rfl (by omega)) (by simp [HN.out]), turn_bad (by rw [HN.out]; exact hiN) (by rintro ⟨⟨h1, h2, h3, h4, h5, h6, h7, h8⟩, h9, h10⟩; simp only at h1 h2 h3 h4 h5 h6 h7 h8 h9 h10; omega), hB.setCell hg _⟩
    · (subst hMM; rw [show ((8 : Nat) : Int) = 8 from rfl])
      have y0 := own_at HO.out HN.out hx (j := 4) rfl
      have f0 := HO.out.frozenAt (iN * 7 + 4)
      go_wp2_with fail
      go_meet
      case rel => exact ⟨xs.set iN (⟨id, pr, pp, it, -N1, lt, df⟩ : LineT), own_lies LineT.len (own_turn HO.out hx rfl (by omega)) (by simp [HN.out]), turn_bad (by rw [HN.out]; exact hiN) (by rintro ⟨⟨h1, h2, h3, h4, h5, h6, h7, h8⟩, h9, h10⟩; simp only at h1 h2 h3 h4 h5 h6 h7 h8 h9 h10; omega), hB.setCell hg _⟩
    · (subst hMM; rw [show ((9 : Nat) : Int) = 9 from rfl])
      have y0 := own_at HO.out HN.out hx (j := 5) rfl
      have f0 := HO.out.frozenAt (iN * 7 + 5)
      go_wp2_with fail
      go_meet
      case rel => exact ⟨xs.set iN (⟨id, pr, pp, it, rc, 12 + N1, df⟩ : LineT), own_lies LineT.len (own_turn HO.out hx rfl (by omega)) (by simp [HN.out]), turn_bad (by rw [HN.out]; exact hiN) (by rintro ⟨⟨h1, h2, h3, h4, h5, h6, h7, h8⟩, h9, h10⟩; simp only at h1 h2 h3 h4 h5 h6 h7 h8 h9 h10; omega), hB.setCell hg _⟩
    · (subst hMM; rw [show ((10 : Nat) : Int) = 10 from rfl])
      have y0 := own_at HO.out HN.out hx (j := 5) rfl
      have f0 := HO.out.frozenAt (iN * 7 + 5)
      go_wp2_with fail
      go_meet
      case rel => exact ⟨xs.set iN (⟨id, pr, pp, it, rc, -N1, df⟩ : LineT), own_lies LineT.len (own_turn HO.out hx rfl (by omega)) (by simp [HN.out]), turn_bad (by rw [HN.out]; exact hiN) (by rintro ⟨⟨h1, h2, h3, h4, h5, h6, h7, h8⟩, h9, h10⟩; simp only at h1 h2 h3 h4 h5 h6 h7 h8 h9 h10; omega), hB.setCell hg _⟩
    · (subst hMM; rw [show ((11 : Nat) : Int) = 11 from rfl])
      have hBh : Hid (Below w2.heap.size w2 w5) := hB
      clear hB HO hx k1 k2 E1 E2 E3 hg hcp HL HLw
      obtain ⟨r, hr⟩ := Int.eq_ofNat_of_zero_le (Int.emod_nonneg N1 (b := 9) (by omega))
      have hr8 : r ≤ 8 := by
        have := Int.emod_lt_of_pos N1 (b := 9) (by omega)
        omega
      have ht : Int.tmod N1 9 = (r : Int) := by rw [Int.tmod_eq_emod_of_nonneg (by omega)]; exact hr
      clear hr
      go_wp2_with fail
      go_loopw [12, 14] (fun v j wr => ∃ (k : Nat) (ys : List LineT), k ≤ 65 + r ∧ j = .int .i64 k ∧ ys.length = k ∧ wr.ownsRow w2.heap.size 23 7 v k (ys.flatMap LineT.f) ∧ Below w2.heap.size w2 wr) (fun _ j _ => 65 + r - (intOf j).toNat)
      case atStart => exact ⟨0, [], Nat.zero_le _, rfl, rfl, World.ownsRow_nil _ _ _ _, hBh.out⟩
      case round =>
      obtain ⟨k, ys, hk, rfl, hyl, hown, hBr⟩ := hrel
      by_cases hlt : k < 65 + r
      · have O1 : Hid ((wr.alloc (.cells #[.int .i64 ((k : Int) + 1), .int .i64 0, .int .i64 0, .int .i64 0, .int .i64 0, .int .i64 0, .bool false] 23)).ownsRow w2.heap.size 23 7 u12 k (ys.flatMap LineT.f)) := hown.alloc _
        have S1 : Hid (Src (wr.alloc (.cells #[.int .i64 ((k : Int) + 1), .int .i64 0, .int .i64 0, .int .i64 0, .int .i64 0, .int .i64 0, .bool false] 23)) (.slice (some ⟨wr.heap.size, 0, none⟩) 1 1) 1 (LineT.f ⟨(k : Int) + 1, 0, 0, 0, 0, 0, false⟩)) := src_new wr (LineT.f ⟨(k : Int) + 1, 0, 0, 0, 0, 0, false⟩) 1 _
        have B1 : Hid (Below w2.heap.size w2 (wr.alloc (.cells #[.int .i64 ((k : Int) + 1), .int .i64 0, .int .i64 0, .int .i64 0, .int .i64 0, .int .i64 0, .bool false] 23))) := below_alloc hBr _
        have HY : Hid (ys.length = k) := hyl
        clear hown hBr hyl
        go_upto_region 14 with (at_builtin; refine wpList_append_src rfl (.tmp 51) (.tmp 55) 24 rfl w2.heap.size 23 i0 (.agg #[.int .i64 0, .int .i64 0, .int .i64 0, .int .i64 0, .int .i64 0, .int .i64 0, .bool false]) 7 56 Try.underlying24 hi hz0 hz1 hz2 rfl (by decide) u12 k (ys.flatMap LineT.f) rfl O1.out (.slice (some ⟨wr.heap.size, 0, none⟩) 1 1) 1 (LineT.f ⟨(k : Int) + 1, 0, 0, 0, 0, 0, false⟩) rfl S1.out rfl (LineT.one _) (by unfold maxLen; omega) (by omega) B1.out.size ?_; intro v7 w7 o7 g7 l7; have B7 : Hid (Below w2.heap.size w2 w7) := (below_grown B1.out g7 (fun k h => (O1.out.lt k h).1)); have O7 : Hid (w7.ownsRow w2.heap.size 23 7 v7 (k + 1) (ys.flatMap LineT.f ++ LineT.f ⟨(k : Int) + 1, 0, 0, 0, 0, 0, false⟩)) := o7; clear o7 g7 l7)
        clear O1 S1 B1
        go_wp2_with fail
        go_roundw
        case rel => exact ⟨k + 1, ys ++ [⟨(k : Int) + 1, 0, 0, 0, 0, 0, false⟩], by omega, by go_num, by simp [HY.out], own_more _ O7.out, B7.out⟩
        case measure => simp [intOf]; omega
      · go_wp2_with fail
        go_meet
        case rel => exact ⟨ys, own_lies LineT.len hown hyl, rightT_long (by omega), hBr⟩
  case rest =>
    obtain ⟨ys, hly, hrn, hB2⟩ := hcut
    have R2 : Hid (rightT ys = false) := hrn
    have hLy : Hid (Lies 7 LineT.f wc u12 ys) := hly
    clear hly hrn HO hx k1 k2 E1 E2 E3 HL HLw hB
    go_wp2_with (first
      | (go_at_call 8; refine (tright_any _ ys _ hLy.out).mono ?_; rintro e w3 ⟨rfl, d3⟩; rw [R2.out])
      | (go_at_call 3; refine (tapeRuns_any _).mono ?_; rintro e w4 ⟨rfl, d4⟩))
    go_ret
    exact ⟨rfl, below_then bW (below_then b2 (below_then hB2 (below_then d3 d4)))⟩
theorem tapeRight_law (v0 v1 v2 v3 : Value) (w : World) (w0 : Arg w (.struct (.cons 1 (.slice 1 (.int .i64)) (.cons 1 (.slice 1 (.int .i64)) (.cons 1 (.slice 1 (.int .i64)) (.cons 1 (.slice 1 (.int .i64)) (.cons 1 (.slice 1 (.int .i64)) (.cons 1 (.slice 1 (.int .i64)) .nil))))))) v0) (w1 : Arg w (.int .i64) v1) (w2 : Arg w (.int .i64) v2) (w3 : Arg w (.int .i64) v3) :
    Calls Try.prog 4 #[v0, v1, v2, v3] w fun e w' => e = .returned (.bool true) ∧ Below w.heap.size w w' := by
  obtain ⟨a, rfl, _⟩ := arg_int w1
  obtain ⟨b, rfl, _⟩ := arg_int w2
  obtain ⟨c, rfl, _⟩ := arg_int w3
  exact tapeRight_any v0 a b c w (arg_tape w0)
end Go.Proofs.Ytibakfhalabdaaa
