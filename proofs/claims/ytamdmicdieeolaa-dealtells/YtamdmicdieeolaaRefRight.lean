/-
  The document's own Right of a deal: the walk.
-/
import Derived.Test.YtamdmicdieeolaaRefSteps
namespace Go.Proofs.Ytamdmicdieeolaa
open Go.RowKit

set_option maxRecDepth 1000000 in
set_option maxHeartbeats 16000000 in
theorem rref_any (l n a b c : Value) (d : DealT) (w : World) (h : DealIn w l n a b c d) :
    Calls Try.prog 13 #[d.t.v l n a b c] w fun e w' => e = .returned (.bool d.ref) ∧ Below w.heap.size w w' := by
  obtain ⟨V, hV⟩ : ∃ V, d.ref = V := ⟨_, rfl⟩
  rw [hV]
  unfold DealT.ref at hV
  obtain ⟨la, lc, rfl, _, _, _, _⟩ := id h.ls
  obtain ⟨na, nc, rfl, _, _, _, _⟩ := id h.ns
  obtain ⟨nl, hnl⟩ : ∃ k, d.ls.length = k := ⟨_, rfl⟩
  obtain ⟨nn, hnn⟩ : ∃ k, d.ns.length = k := ⟨_, rfl⟩
  rw [hnl, hnn] at h hV ⊢
  have hl1 := h.ls.len
  have hl2 := h.ns.len
  unfold maxLen at hl1 hl2
  have bl : nl ≤ 9223372036854775807 := by omega
  have bn : nn ≤ 9223372036854775807 := by omega
  have cl : nl ≤ lc := hl1.2.1
  have H : Hid (DealIn w (.slice la nl lc) (.slice na nn nc) a b c d) := h
  have HNL : Hid (d.ls.length = nl) := hnl
  have HNN : Hid (d.ns.length = nn) := hnn
  have HM : Hid (∀ k, k < 3 → d.from k = (stepsP (d.mode k) && d.from (k + 1))) := d.from_at
  have HL : Hid (∀ k, k < 3 → Lies 2 StT.f w (#[a, b, c].getD k undef) (d.mode k)) := fun k hk => by
    rcases (show k = 0 ∨ k = 1 ∨ k = 2 by omega) with rfl | rfl | rfl
    · exact h.s0
    · exact h.s1
    · exact h.s2
  have HX : Hid (d.from 3 = true) := rfl
  obtain ⟨t, ht⟩ : ∃ t, d.t = t := ⟨_, rfl⟩
  rw [ht] at hV ⊢
  obtain ⟨O, hO⟩ : ∃ O, loansF 0 0 d.ls = O := ⟨_, rfl⟩
  rw [hO] at hV
  have HO : Hid (loansF 0 0 (d.ls.drop 0) = O) := hO
  obtain ⟨A1, h1⟩ : ∃ A, t.plain = A := ⟨_, rfl⟩
  obtain ⟨A2, h2⟩ : ∃ A, inL 0 100000 t.tests = A := ⟨_, rfl⟩
  obtain ⟨A3, h3⟩ : ∃ A, lensF nl nn = A := ⟨_, rfl⟩
  rw [h1, h2, h3] at hV
  have HV : Hid ((A1 && (A2 && (A3 && restF O d))) = V) := hV
  obtain ⟨yr, mo, ba, fe, re, ta, ad, cu, t0, t1, t2, t3, t4⟩ := t
  have H1 : Hid (NumT.plain ⟨yr, mo, ba, fe, re, ta, ad, cu, t0, t1, t2, t3, t4⟩ = A1) := h1
  have H2 : Hid (inL 0 100000 [t0, t1, t2, t3, t4] = A2) := h2
  have H3 : Hid (lensF nl nn = A3) := h3
  clear h h1 h2 h3 hV hO ht hnl hnn hl1 hl2
  unfold NumT.v
  simp only
  go_enter Try.func13, Try.ntmps13
  go_upto_region 1 with fail
  refine wp_letter (fun wx => ∃ g, w.heap.size = g ∧ Blk wx g 29 (NumT.f ⟨yr, mo, ba, fe, re, ta, ad, cu, t0, t1, t2, t3, t4⟩ (.slice la nl lc) (.slice na nn nc) a b c) ∧ Below w.heap.size w wx) ⟨_, rfl, Blk.fresh _ _ (NumT.f ⟨yr, mo, ba, fe, re, ta, ad, cu, t0, t1, t2, t3, t4⟩ (.slice la nl lc) (.slice na nn nc) a b c), below_alloc (Below.refl _ _) _⟩ ?_
  rintro W ⟨g, eg, bg, hW⟩
  rw [eg]
  clear eg
  have c0 := bg.cell 0 _ rfl
  have c1 := bg.cell 1 _ rfl
  have c2 := bg.cell 2 _ rfl
  have c5 := bg.cell 5 _ rfl
  have c6 := bg.cell 6 _ rfl
  have c7 := bg.cell 7 _ rfl
  have c8 := bg.cell 8 _ rfl
  have c9 := bg.cell 9 _ rfl
  go_cut [90] (fun c wx => c = .bool (!A1) ∧ wx = W)
  case first =>
    have I := H1.out
    clear H1 HV HL H HO HM HNL HNN HX H2 H3 bg hW
    by_cases qyr0 : yr < 1
    · as_aux_lemma =>
        have e : A1 = false := by rw [← I, NumT.plain, decide_eq_false_iff_not]; simp only; omega
        clear I
        subst e
        go_wp2
        go_meet
        case rel => exact ⟨rfl, rfl⟩
    by_cases qyr1 : 9000 < yr
    · as_aux_lemma =>
        have e : A1 = false := by rw [← I, NumT.plain, decide_eq_false_iff_not]; simp only; omega
        clear I
        subst e
        go_wp2
        go_meet
        case rel => exact ⟨rfl, rfl⟩
    by_cases qmo0 : mo < 1
    · as_aux_lemma =>
        have e : A1 = false := by rw [← I, NumT.plain, decide_eq_false_iff_not]; simp only; omega
        clear I
        subst e
        go_wp2
        go_meet
        case rel => exact ⟨rfl, rfl⟩
    by_cases qmo1 : 12 < mo
    · as_aux_lemma =>
        have e : A1 = false := by rw [← I, NumT.plain, decide_eq_false_iff_not]; simp only; omega
        clear I
        subst e
        go_wp2
        go_meet
        case rel => exact ⟨rfl, rfl⟩
    by_cases qba0 : ba < 0
    · as_aux_lemma =>
        have e : A1 = false := by rw [← I, NumT.plain, decide_eq_false_iff_not]; simp only; omega
        clear I
        subst e
        go_wp2
        go_meet
        case rel => exact ⟨rfl, rfl⟩
    by_cases qba1 : 2 < ba
    · as_aux_lemma =>
        have e : A1 = false := by rw [← I, NumT.plain, decide_eq_false_iff_not]; simp only; omega
        clear I
        subst e
        go_wp2
        go_meet
        case rel => exact ⟨rfl, rfl⟩
    by_cases qfe0 : fe < 0
    · as_aux_lemma =>
        have e : A1 = false := by rw [← I, NumT.plain, decide_eq_false_iff_not]; simp only; omega
        clear I
        subst e
        go_wp2
        go_meet
        case rel => exact ⟨rfl, rfl⟩
    by_cases qfe1 : 5000 < fe
    · as_aux_lemma =>
        have e : A1 = false := by rw [← I, NumT.plain, decide_eq_false_iff_not]; simp only; omega
        clear I
        subst e
        go_wp2
        go_meet
        case rel => exact ⟨rfl, rfl⟩
    by_cases qre0 : re < 0
    · as_aux_lemma =>
        have e : A1 = false := by rw [← I, NumT.plain, decide_eq_false_iff_not]; simp only; omega
        clear I
        subst e
        go_wp2
        go_meet
        case rel => exact ⟨rfl, rfl⟩
    by_cases qre1 : 1099511627776 < re
    · as_aux_lemma =>
        have e : A1 = false := by rw [← I, NumT.plain, decide_eq_false_iff_not]; simp only; omega
        clear I
        subst e
        go_wp2
        go_meet
        case rel => exact ⟨rfl, rfl⟩
    by_cases qta0 : ta < 0
    · as_aux_lemma =>
        have e : A1 = false := by rw [← I, NumT.plain, decide_eq_false_iff_not]; simp only; omega
        clear I
        subst e
        go_wp2
        go_meet
        case rel => exact ⟨rfl, rfl⟩
    by_cases qta1 : 10000 < ta
    · as_aux_lemma =>
        have e : A1 = false := by rw [← I, NumT.plain, decide_eq_false_iff_not]; simp only; omega
        clear I
        subst e
        go_wp2
        go_meet
        case rel => exact ⟨rfl, rfl⟩
    by_cases qad0 : ad < 0
    · as_aux_lemma =>
        have e : A1 = false := by rw [← I, NumT.plain, decide_eq_false_iff_not]; simp only; omega
        clear I
        subst e
        go_wp2
        go_meet
        case rel => exact ⟨rfl, rfl⟩
    by_cases qad1 : 1099511627776 < ad
    · as_aux_lemma =>
        have e : A1 = false := by rw [← I, NumT.plain, decide_eq_false_iff_not]; simp only; omega
        clear I
        subst e
        go_wp2
        go_meet
        case rel => exact ⟨rfl, rfl⟩
    by_cases qcu0 : cu < 0
    · as_aux_lemma =>
        have e : A1 = false := by rw [← I, NumT.plain, decide_eq_false_iff_not]; simp only; omega
        clear I
        subst e
        go_wp2
        go_meet
        case rel => exact ⟨rfl, rfl⟩
    by_cases qcu1 : 600 < cu
    · as_aux_lemma =>
        have e : A1 = false := by rw [← I, NumT.plain, decide_eq_false_iff_not]; simp only; omega
        clear I
        subst e
        go_wp2
        go_meet
        case rel => exact ⟨rfl, rfl⟩
    as_aux_lemma =>
      have e : A1 = true := by rw [← I, NumT.plain, decide_eq_true_eq]; simp only; omega
      clear I
      subst e
      go_wp2
      go_meet
      case rel => exact ⟨rfl, rfl⟩
  case rest =>
  obtain ⟨rfl, e⟩ := hcut
  subst e
  obtain ⟨W, hWX⟩ : ∃ Y, Y = wc := ⟨_, rfl⟩
  subst hWX
  clear c0 c1 c2 c5 c6 c7 c8 c9 H1
  cases A1 with
  | false =>
    have HE : Hid (V = false) := HV.out.symm
    go_wp2
    go_ret
    exact ⟨by rw [HE.out]; rfl, hW⟩
  | true =>
  replace HV : Hid ((A2 && (A3 && restF O d)) = V) := HV.out
  have c10 := bg.cell 10 _ rfl
  have c11 := bg.cell 11 _ rfl
  have c12 := bg.cell 12 _ rfl
  have c13 := bg.cell 13 _ rfl
  have c14 := bg.cell 14 _ rfl
  go_upto_region 4 with fail
  refine wp_letter (fun wx => ∃ g2, W.heap.size = g2 ∧ Blk wx g2 25 [.int .i64 t0, .int .i64 t1, .int .i64 t2, .int .i64 t3, .int .i64 t4] ∧ Below W.heap.size W wx) ⟨_, rfl, Blk.fresh _ _ [.int .i64 t0, .int .i64 t1, .int .i64 t2, .int .i64 t3, .int .i64 t4], below_alloc (Below.refl _ _) _⟩ ?_
  rintro W2 ⟨g2, eg2, bg2, hW2⟩
  rw [eg2]
  clear eg2 c10 c11 c12 c13 c14
  have c0 := bg2.cell 0 _ rfl
  have c1 := bg2.cell 1 _ rfl
  have c2 := bg2.cell 2 _ rfl
  have c3 := bg2.cell 3 _ rfl
  have c4 := bg2.cell 4 _ rfl
  go_wp2
  refine wp_letter (fun wx => ∃ g3, W2.heap.size = g3 ∧ Blk wx g3 3 ([t0, t1, t2, t3, t4].map (Value.int .i64)) ∧ Below W2.heap.size W2 wx) ⟨_, rfl, Blk.fresh _ _ ([t0, t1, t2, t3, t4].map (Value.int .i64)), below_alloc (Below.refl _ _) _⟩ ?_
  rintro W3 ⟨g3, eg3, bg3, hW3⟩
  rw [eg3]
  have hW4 := below_then hW (below_then hW2 hW3)
  replace bg := (bg.then hW2).then hW3
  clear eg3 c0 c1 c2 c3 c4 bg2 hW2 hW3 hW
  obtain ⟨zs, hzs⟩ : ∃ zs, [t0, t1, t2, t3, t4] = zs := ⟨_, rfl⟩
  rw [hzs] at bg3 H2
  have hz5 : zs.length = 5 := by rw [← hzs]; rfl
  have HC : Hid (∀ k, k < 5 → W3.cell? ⟨g3, k, none⟩ = some (.int .i64 (zs.getD k 0))) := fun k hk => bg3.cell k _ (by rw [List.getElem?_map, List.getElem?_eq_getElem (by omega)]; simp [hz5, hk])
  have HZ5 : Hid (zs.length = 5) := hz5
  have H2' : Hid (inL 0 100000 (zs.drop 0) = A2) := H2.out
  clear hzs hz5 bg3 H2
  go_loopw [105] (fun i wr => ∃ k : Nat, k ≤ 5 ∧ i = .int .i64 k ∧ inL 0 100000 (zs.drop k) = A2 ∧ Below W3.heap.size W3 wr) (fun i _ => 5 - (intOf i).toNat)
  case atStart => exact ⟨0, Nat.zero_le _, rfl, H2'.out, Below.refl _ _⟩
  case round =>
  clear H2'
  obtain ⟨k, hk, rfl, hr, hB⟩ := hrel
  by_cases hlt : k < 5
  · have hc := cell_keep hB (HC.out k hlt)
    rw [inL_at 0 100000 zs k (by rw [HZ5.out]; exact hlt)] at hr
    generalize zs.getD k 0 = x at hc hr
    have HA : Hid ((decide (0 ≤ x) && decide (x ≤ 100000) && inL 0 100000 (zs.drop (k + 1))) = A2) := hr
    clear hr
    have k0 : (0 : Int) ≤ (k : Int) := by omega
    have k1 : (k : Int) < 5 := by omega
    by_cases q0 : x < 0
    · have HE : Hid (V = false) := by
        have : A2 = false := by rw [← HA.out, decide_eq_false (p := 0 ≤ x) (by omega)]; rfl
        show V = false
        rw [← HV.out, this]
        rfl
      clear HA HV
      go_wp2
      go_ret
      exact ⟨by rw [HE.out]; rfl, below_then hW4 hB⟩
    by_cases q1 : 100000 < x
    · have HE : Hid (V = false) := by
        have : A2 = false := by rw [← HA.out, decide_eq_false (p := x ≤ 100000) (by omega), Bool.and_false]; rfl
        show V = false
        rw [← HV.out, this]
        rfl
      clear HA HV
      go_wp2
      go_ret
      exact ⟨by rw [HE.out]; rfl, below_then hW4 hB⟩
    have HE : Hid (inL 0 100000 (zs.drop (k + 1)) = A2) := by
      show _ = _
      rw [← HA.out, decide_eq_true (p := 0 ≤ x) (by omega), decide_eq_true (p := x ≤ 100000) (by omega)]
      rfl
    clear HA HV
    go_wp2
    go_roundw
    case rel => exact ⟨k + 1, by omega, by go_num, HE.out, hB⟩
    case measure => simp [intOf]; omega
  obtain rfl : k = 5 := by omega
  have hA : A2 = true := by rw [← hr, List.drop_eq_nil_of_le (by rw [HZ5.out]; omega)]; rfl
  subst hA
  replace HV : Hid ((A3 && restF O d) = V) := HV.out
  replace bg := bg.then hB
  have hWr := below_then hW4 hB
  obtain ⟨W5, hW5⟩ : ∃ Y, Y = wr := ⟨_, rfl⟩
  subst hW5
  clear hr hB hW4 HC HZ5 hlt hk
  have c3 := bg.cell 3 _ rfl
  have c4 := bg.cell 4 _ rfl
  go_upto_region 10 with fail
  go_cut [137] (fun c wx => c = .bool (!A3) ∧ wx = W5)
  case first =>
    have I := H3.out
    clear H3 HV HL H HO HM HNL HNN HX bg hWr
    by_cases q0 : (nl : Int) < 1
    · as_aux_lemma =>
        have e : A3 = false := by rw [← I, lensF, decide_eq_false_iff_not]; omega
        clear I
        subst e
        go_wp2
        go_meet
        case rel => exact ⟨rfl, rfl⟩
    by_cases q1 : (64 : Int) < (nl : Int)
    · as_aux_lemma =>
        have e : A3 = false := by rw [← I, lensF, decide_eq_false_iff_not]; omega
        clear I
        subst e
        go_wp2
        go_meet
        case rel => exact ⟨rfl, rfl⟩
    by_cases q2 : (nn : Int) < 1
    · as_aux_lemma =>
        have e : A3 = false := by rw [← I, lensF, decide_eq_false_iff_not]; omega
        clear I
        subst e
        go_wp2
        go_meet
        case rel => exact ⟨rfl, rfl⟩
    by_cases q3 : (8 : Int) < (nn : Int)
    · as_aux_lemma =>
        have e : A3 = false := by rw [← I, lensF, decide_eq_false_iff_not]; omega
        clear I
        subst e
        go_wp2
        go_meet
        case rel => exact ⟨rfl, rfl⟩
    as_aux_lemma =>
      have e : A3 = true := by rw [← I, lensF, decide_eq_true_eq]; omega
      clear I
      subst e
      go_wp2
      go_meet
      case rel => exact ⟨rfl, rfl⟩
  case rest =>
  obtain ⟨rfl, e⟩ := hcut
  subst e
  obtain ⟨W, hWX⟩ : ∃ Y, Y = wc := ⟨_, rfl⟩
  subst hWX
  cases A3 with
  | false =>
    have HE : Hid (V = false) := HV.out.symm
    go_wp2
    go_ret
    exact ⟨by rw [HE.out]; rfl, hWr⟩
  | true =>
  replace HV : Hid (restF O d = V) := HV.out
  have I := H3.out
  rw [lensF, decide_eq_true_eq] at I
  obtain ⟨i1, i2, i3, i4⟩ := I
  clear H3 c4
  have HLS : Hid (Lies 2 LnT.f W (.slice la nl lc) d.ls) := H.out.ls.below hWr
  go_wp2
  go_loopw [6, 141] (fun p i wr => ∃ (k : Nat) (u P : Int), k ≤ nl ∧ i = .int .i64 k ∧ p = .int .i64 P ∧ loansF u P (d.ls.drop k) = O ∧ 0 ≤ P ∧ P ≤ 1099511627776 ∧ (k = 0 → u = 0) ∧ (0 < k → 1 ≤ u ∧ ∃ y, d.ls[k - 1]? = some y ∧ y.id = u) ∧ Below W.heap.size W wr) (fun _ i _ => nl - (intOf i).toNat)
  case atStart => exact ⟨0, 0, 0, Nat.zero_le _, rfl, rfl, HO.out, by omega, by omega, fun _ => rfl, fun h => by omega, Below.refl _ _⟩
  case round =>
  clear HO c3
  obtain ⟨k, u, P, hk, rfl, rfl, hr, p0, p1, u0, u1, hB⟩ := hrel
  by_cases hlt : k < nl
  · obtain ⟨b', off, x, rfl, hx, hmem, d0, d1⟩ := HLS.out.ln k hlt
    replace d0 := cell_keep hB d0
    replace d1 := cell_keep hB d1
    rw [loansF_at d.ls k x hx] at hr
    obtain ⟨id, bal⟩ := x
    simp only at d0 d1 hr
    obtain ⟨B, hb⟩ : ∃ B, decide (u < id ∧ 0 ≤ bal ∧ bal ≤ 1099511627776 - P) = B := ⟨_, rfl⟩
    have HB : Hid (decide (u < id ∧ 0 ≤ bal ∧ bal ≤ 1099511627776 - P) = B) := hb
    have HR : Hid ((if u < id ∧ 0 ≤ bal ∧ bal ≤ 1099511627776 - P then loansF id (P + bal) (d.ls.drop (k + 1)) else none) = O) := hr
    have HPR : Hid (0 < k → ∃ (M : Nat), (k : Int) - 1 = (M : Int) ∧ M < nl ∧ wr.cell? ⟨b', off + M * 2, none⟩ = some (.int .i64 u)) := fun h0 => by
      obtain ⟨_, y, hy, e⟩ := u1 h0
      obtain ⟨b2, off2, y2, hb2, hy2, _, e0, _⟩ := HLS.out.ln (k - 1) (by omega)
      simp only [Option.some.injEq, Addr.mk.injEq, and_true] at hb2
      obtain ⟨rfl, rfl⟩ := hb2
      obtain rfl : y = y2 := Option.some.inj (hy.symm.trans hy2)
      rw [e] at e0
      exact ⟨k - 1, by omega, by omega, cell_keep hB e0⟩
    have HU : Hid ((0 < k → 1 ≤ u) ∧ (k = 0 → u = 0)) := ⟨fun h => (u1 h).1, u0⟩
    have HLX : Hid (d.ls[k]? = some ⟨id, bal⟩) := hx
    clear hr hb hx hmem u0 u1
    have k0 : (0 : Int) ≤ (k : Int) := by omega
    have k1 : (k : Int) < (nl : Int) := by omega
    go_upto_region 16 with fail
    refine wp_letter (fun wx => ∃ g4, wr.heap.size = g4 ∧ Blk wx g4 46 (LnT.f ⟨id, bal⟩) ∧ Below wr.heap.size wr wx) ⟨_, rfl, Blk.fresh _ _ (LnT.f ⟨id, bal⟩), below_alloc (Below.refl _ _) _⟩ ?_
    rintro W6 ⟨g4, eg4, bg4, hW6⟩
    rw [eg4]
    have e0 := bg4.cell 0 _ rfl
    have e1 := bg4.cell 1 _ rfl
    have c3 := cell_keep hW6 (cell_keep hB (bg.cell 3 _ rfl))
    have hW7 := below_then hB hW6
    replace HPR : Hid (0 < k → ∃ (M : Nat), (k : Int) - 1 = (M : Int) ∧ M < nl ∧ W6.cell? ⟨b', off + M * 2, none⟩ = some (.int .i64 u)) := fun h0 => by
      obtain ⟨M, h1, h2, h3⟩ := HPR.out h0
      exact ⟨M, h1, h2, cell_keep hW6 h3⟩
    clear eg4 d0 d1 bg4 hB hW6
    go_cut [176] (fun c wx => c = .bool (!B) ∧ Below W6.heap.size W6 wx)
    case first =>
      have I := HB.out
      have J := HU.out
      have K1 := HPR.out
      clear HB HR HU HPR HLX HV HL H HM HNL HNN HX HLS bg hWr
      by_cases qz : k = 0
      · have J2 := J.2 qz
        by_cases q0 : id < 1
        · as_aux_lemma =>
            have e : B = false := by rw [← I, decide_eq_false_iff_not]; omega
            clear I J K1 J2
            subst e
            have z0 : decide (id < 1) = true := decide_eq_true (by omega)
            have z5 : decide (0 < k) = false := decide_eq_false (by omega)
            clear qz
            go_quiet (fail)
            go_wp2
            go_meet
            case rel => exact ⟨rfl, below_draws (Below.refl _ _) _⟩
        by_cases q1 : bal < 0
        · as_aux_lemma =>
            have e : B = false := by rw [← I, decide_eq_false_iff_not]; omega
            clear I J K1 J2
            subst e
            have z0 : decide (id < 1) = false := decide_eq_false (by omega)
            have z1 : decide ((0 : Int) < (k : Int)) = false := decide_eq_false (by omega)
            have z3 : decide (bal < 0) = true := decide_eq_true (by omega)
            have z5 : decide (0 < k) = false := decide_eq_false (by omega)
            clear qz
            go_quiet (fail)
            go_wp2
            go_meet
            case rel => exact ⟨rfl, below_draws (Below.refl _ _) _⟩
        by_cases q2 : 1099511627776 - P < bal
        · as_aux_lemma =>
            have e : B = false := by rw [← I, decide_eq_false_iff_not]; omega
            clear I J K1 J2
            subst e
            have z0 : decide (id < 1) = false := decide_eq_false (by omega)
            have z1 : decide ((0 : Int) < (k : Int)) = false := decide_eq_false (by omega)
            have z3 : decide (bal < 0) = false := decide_eq_false (by omega)
            have z4 : decide (1099511627776 - P < bal) = true := decide_eq_true (by omega)
            have z5 : decide (0 < k) = false := decide_eq_false (by omega)
            clear qz
            go_quiet (fail)
            go_wp2
            go_meet
            case rel => exact ⟨rfl, below_draws (Below.refl _ _) _⟩
        · as_aux_lemma =>
            have e : B = true := by rw [← I, decide_eq_true_eq]; omega
            clear I J K1 J2
            subst e
            have z0 : decide (id < 1) = false := decide_eq_false (by omega)
            have z1 : decide ((0 : Int) < (k : Int)) = false := decide_eq_false (by omega)
            have z3 : decide (bal < 0) = false := decide_eq_false (by omega)
            have z4 : decide (1099511627776 - P < bal) = false := decide_eq_false (by omega)
            have z5 : decide (0 < k) = false := decide_eq_false (by omega)
            clear qz
            go_quiet (fail)
            go_wp2
            go_meet
            case rel => exact ⟨rfl, below_draws (Below.refl _ _) _⟩
      · have J2 := J.1 (by omega)
        obtain ⟨M, eM, lM, e3⟩ := K1 (by omega)
        have qz0 : (0 : Int) < (k : Int) := by omega
        have m0 : (0 : Int) ≤ (M : Int) := by omega
        have m1 : (M : Int) < (nl : Int) := by omega
        by_cases q0 : id < 1
        · as_aux_lemma =>
            have e : B = false := by rw [← I, decide_eq_false_iff_not]; omega
            clear I J K1 J2
            subst e
            have z0 : decide (id < 1) = true := decide_eq_true (by omega)
            have z5 : 0 < k := by omega
            have z6 : decide (0 < k) = true := decide_eq_true z5
            clear qz
            go_quiet (fail)
            go_wp2
            go_meet
            case rel => exact ⟨rfl, below_draws (Below.refl _ _) _⟩
        by_cases q3 : id ≤ u
        · as_aux_lemma =>
            have e : B = false := by rw [← I, decide_eq_false_iff_not]; omega
            clear I J K1 J2
            subst e
            have z0 : decide (id < 1) = false := decide_eq_false (by omega)
            have z2 : decide (id ≤ u) = true := decide_eq_true (by omega)
            have z5 : 0 < k := by omega
            have z6 : decide (0 < k) = true := decide_eq_true z5
            clear qz
            go_quiet (fail)
            go_wp2
            go_meet
            case rel => exact ⟨rfl, below_draws (Below.refl _ _) _⟩
        by_cases q1 : bal < 0
        · as_aux_lemma =>
            have e : B = false := by rw [← I, decide_eq_false_iff_not]; omega
            clear I J K1 J2
            subst e
            have z0 : decide (id < 1) = false := decide_eq_false (by omega)
            have z2 : decide (id ≤ u) = false := decide_eq_false (by omega)
            have z3 : decide (bal < 0) = true := decide_eq_true (by omega)
            have z5 : 0 < k := by omega
            have z6 : decide (0 < k) = true := decide_eq_true z5
            clear qz
            go_quiet (fail)
            go_wp2
            go_meet
            case rel => exact ⟨rfl, below_draws (Below.refl _ _) _⟩
        by_cases q2 : 1099511627776 - P < bal
        · as_aux_lemma =>
            have e : B = false := by rw [← I, decide_eq_false_iff_not]; omega
            clear I J K1 J2
            subst e
            have z0 : decide (id < 1) = false := decide_eq_false (by omega)
            have z2 : decide (id ≤ u) = false := decide_eq_false (by omega)
            have z3 : decide (bal < 0) = false := decide_eq_false (by omega)
            have z4 : decide (1099511627776 - P < bal) = true := decide_eq_true (by omega)
            have z5 : 0 < k := by omega
            have z6 : decide (0 < k) = true := decide_eq_true z5
            clear qz
            go_quiet (fail)
            go_wp2
            go_meet
            case rel => exact ⟨rfl, below_draws (Below.refl _ _) _⟩
        · as_aux_lemma =>
            have e : B = true := by rw [← I, decide_eq_true_eq]; omega
            clear I J K1 J2
            subst e
            have z0 : decide (id < 1) = false := decide_eq_false (by omega)
            have z2 : decide (id ≤ u) = false := decide_eq_false (by omega)
            have z3 : decide (bal < 0) = false := decide_eq_false (by omega)
            have z4 : decide (1099511627776 - P < bal) = false := decide_eq_false (by omega)
            have z5 : 0 < k := by omega
            have z6 : decide (0 < k) = true := decide_eq_true z5
            clear qz
            go_quiet (fail)
            go_wp2
            go_meet
            case rel => exact ⟨rfl, below_draws (Below.refl _ _) _⟩
    case rest =>
    obtain ⟨rfl, hW8⟩ := hcut
    have e1 := cell_keep hW8 e1
    have hW9 := below_then hW7 hW8
    have I := HB.out
    cases B with
    | false =>
      rw [decide_eq_false_iff_not] at I
      have HE : Hid (V = false) := by
        have : O = none := by rw [← HR.out, if_neg I]
        show V = false
        rw [← HV.out, this]
        rfl
      clear HR HU HPR HB I
      go_wp2
      go_ret
      exact ⟨by rw [HE.out]; rfl, below_then hWr hW9⟩
    | true =>
      rw [decide_eq_true_eq] at I
      have HE : Hid (loansF id (P + bal) (d.ls.drop (k + 1)) = O) := by
        show _ = _
        rw [← HR.out, if_pos I]
      have uu : 0 ≤ u := by
        have := HU.out
        by_cases k = 0 <;> omega
      obtain ⟨j1, j2, j3⟩ := I
      clear HR HU HPR HB
      go_wp2
      go_roundw
      case rel => exact ⟨k + 1, id, P + bal, by omega, by go_num, rfl, HE.out, by omega, by omega, fun h => by omega, fun _ => ⟨by omega, _, HLX.out, rfl⟩, hW9⟩
      case measure => simp [intOf]; omega
  obtain rfl : k = nl := by omega
  have hO : O = some P := by rw [← hr, List.drop_eq_nil_of_le (by rw [HNL.out]; omega)]; rfl
  subst hO
  replace HV : Hid ((notesF P (d.ns.drop 0) && d.from 0) = V) := HV.out
  replace bg := bg.then hB
  have hWs := below_then hWr hB
  obtain ⟨W8, hW8⟩ : ∃ Y, Y = wr := ⟨_, rfl⟩
  subst hW8
  have HNS : Hid (Lies 3 TrT.f W8 (.slice na nn nc) d.ns) := H.out.ns.below hWs
  clear hr hB hWr HLS hlt hk u0 u1
  have c4 := bg.cell 4 _ rfl
  go_wp2
  go_loopw [6, 185] (fun p i wr => ∃ (m : Nat) (P : Int), m ≤ nn ∧ i = .int .i64 m ∧ p = .int .i64 P ∧ (notesF P (d.ns.drop m) && d.from 0) = V ∧ 0 ≤ P ∧ P ≤ 1099511627776 ∧ Below W8.heap.size W8 wr) (fun _ i _ => nn - (intOf i).toNat)
  case atStart => exact ⟨0, P, Nat.zero_le _, rfl, rfl, HV.out, p0, p1, Below.refl _ _⟩
  case round =>
  clear HV c4 p0 p1
  obtain ⟨m, P, hm, rfl, rfl, hr, p0, p1, hB⟩ := hrel
  by_cases hlt : m < nn
  · obtain ⟨b', off, x, rfl, hx, hmem, d0, d1, d2⟩ := HNS.out.tr m hlt
    replace d0 := cell_keep hB d0
    replace d1 := cell_keep hB d1
    replace d2 := cell_keep hB d2
    rw [notesF_at d.ns m x hx] at hr
    obtain ⟨rk, og, rt⟩ := x
    simp only at d0 d1 d2 hr
    obtain ⟨B, hb⟩ : ∃ B, noteF P ⟨rk, og, rt⟩ = B := ⟨_, rfl⟩
    rw [hb] at hr
    have HB : Hid (noteF P ⟨rk, og, rt⟩ = B) := hb
    have HR : Hid ((B && notesF (P - og) (d.ns.drop (m + 1)) && d.from 0) = V) := hr
    clear hr hb hx hmem
    have k0 : (0 : Int) ≤ (m : Int) := by omega
    have k1 : (m : Int) < (nn : Int) := by omega
    go_upto_region 23 with fail
    refine wp_letter (fun wx => ∃ g4, wr.heap.size = g4 ∧ Blk wx g4 32 (TrT.f ⟨rk, og, rt⟩) ∧ Below wr.heap.size wr wx) ⟨_, rfl, Blk.fresh _ _ (TrT.f ⟨rk, og, rt⟩), below_alloc (Below.refl _ _) _⟩ ?_
    rintro W9 ⟨g4, eg4, bg4, hW9⟩
    rw [eg4]
    have e0 := bg4.cell 0 _ rfl
    have e1 := bg4.cell 1 _ rfl
    have e2 := bg4.cell 2 _ rfl
    have hWA := below_then hB hW9
    clear eg4 d0 d1 d2 bg4 hB hW9
    go_cut [217] (fun c wx => c = .bool (!B) ∧ wx = W9)
    case first =>
      have I := HB.out
      clear HB HR HL H HM HNL HNN HX HNS bg hWs hWA
      by_cases q0 : rk < 0
      · as_aux_lemma =>
          have e : B = false := by rw [← I, noteF, decide_eq_false_iff_not]; simp only; omega
          clear I
          subst e
          go_wp2
          go_meet
          case rel => exact ⟨rfl, rfl⟩
      by_cases q1 : 8 ≤ rk
      · as_aux_lemma =>
          have e : B = false := by rw [← I, noteF, decide_eq_false_iff_not]; simp only; omega
          clear I
          subst e
          go_wp2
          go_meet
          case rel => exact ⟨rfl, rfl⟩
      by_cases q2 : og < 1
      · as_aux_lemma =>
          have e : B = false := by rw [← I, noteF, decide_eq_false_iff_not]; simp only; omega
          clear I
          subst e
          go_wp2
          go_meet
          case rel => exact ⟨rfl, rfl⟩
      by_cases q3 : P < og
      · as_aux_lemma =>
          have e : B = false := by rw [← I, noteF, decide_eq_false_iff_not]; simp only; omega
          clear I
          subst e
          go_wp2
          go_meet
          case rel => exact ⟨rfl, rfl⟩
      by_cases q4 : rt < 0
      · as_aux_lemma =>
          have e : B = false := by rw [← I, noteF, decide_eq_false_iff_not]; simp only; omega
          clear I
          subst e
          go_wp2
          go_meet
          case rel => exact ⟨rfl, rfl⟩
      by_cases q5 : 5000 < rt
      · as_aux_lemma =>
          have e : B = false := by rw [← I, noteF, decide_eq_false_iff_not]; simp only; omega
          clear I
          subst e
          go_wp2
          go_meet
          case rel => exact ⟨rfl, rfl⟩
      as_aux_lemma =>
        have e : B = true := by rw [← I, noteF, decide_eq_true_eq]; simp only; omega
        clear I
        subst e
        go_wp2
        go_meet
        case rel => exact ⟨rfl, rfl⟩
    case rest =>
    obtain ⟨rfl, e⟩ := hcut
    subst e
    have I := HB.out
    cases B with
    | false =>
      have HE : Hid (V = false) := HR.out.symm
      clear HR HB I
      go_wp2
      go_ret
      exact ⟨by rw [HE.out]; rfl, below_then hWs hWA⟩
    | true =>
      rw [noteF, decide_eq_true_eq] at I
      simp only at I
      obtain ⟨j1, j2, j3, j4, j5, j6⟩ := I
      have HE : Hid ((notesF (P - og) (d.ns.drop (m + 1)) && d.from 0) = V) := HR.out
      clear HR HB
      go_wp2
      go_roundw
      case rel => exact ⟨m + 1, P - og, by omega, by go_num, rfl, HE.out, by omega, by omega, hWA⟩
      case measure => simp [intOf]; omega
  obtain rfl : m = nn := by omega
  have HV : Hid (d.from 0 = V) := by
    rw [List.drop_eq_nil_of_le (by rw [HNN.out]; omega)] at hr
    exact hr
  replace bg := bg.then hB
  have hWt := below_then hWs hB
  obtain ⟨WB, hWB⟩ : ∃ Y, Y = wr := ⟨_, rfl⟩
  subst hWB
  clear hr hB hWs HNS hlt hm p0 p1
  have c15 := bg.cell 15 _ rfl
  have c16 := bg.cell 16 _ rfl
  have c17 := bg.cell 17 _ rfl
  go_wp2
  clear c15 c16 c17 bg
  go_loopw [225] (fun i wr => ∃ q : Nat, q ≤ 3 ∧ i = .int .i64 q ∧ d.from q = V ∧ Below w.heap.size w wr) (fun i _ => 3 - (intOf i).toNat)
  case atStart => exact ⟨0, Nat.zero_le _, rfl, HV.out, hWt⟩
  case round =>
  clear HV hWt
  obtain ⟨q, hq, rfl, hr, hB⟩ := hrel
  by_cases hlt : q < 3
  · have hl := HL.out q hlt
    have hm := HM.out q hlt
    rw [hr] at hm
    obtain ⟨v, hv⟩ : ∃ v, #[a, b, c].getD q undef = v := ⟨_, rfl⟩
    rw [hv] at hl
    have hi := index_three a b c v q hlt hv
    have L : Hid (Lies 2 StT.f wr v (d.mode q)) := hl.below hB
    obtain ⟨A, hA⟩ : ∃ A, stepsP (d.mode q) = A := ⟨_, rfl⟩
    rw [hA] at hm
    have EA : Hid (stepsP (d.mode q) = A) := hA
    have HR : Hid (V = (A && d.from (q + 1))) := hm
    clear hA hm hl hv hr
    cases A with
    | false =>
      go_wp2_with (go_at_call 30; refine (rsteps_any _ _ _ L.out).mono ?_; rintro e w1 ⟨rfl, d1⟩; rw [EA.out])
      go_ret
      exact ⟨by rw [HR.out]; rfl, below_then hB d1⟩
    | true =>
      go_wp2_with (go_at_call 30; refine (rsteps_any _ _ _ L.out).mono ?_; rintro e w1 ⟨rfl, d1⟩; rw [EA.out])
      have HF : d.from (q + 1) = V := by rw [HR.out]; simp
      refine ⟨⟨_, _, _, _, _, _, _, _, _, ⟨q + 1, by omega, by go_num, HF, below_then hB d1⟩, rfl⟩, ?_⟩
      simp [intOf]; omega
  · obtain rfl : q = 3 := by omega
    rw [HX.out] at hr
    have HR : Hid (V = true) := hr.symm
    clear hr
    go_wp2
    go_ret
    exact ⟨by rw [HR.out]; rfl, hB⟩
end Go.Proofs.Ytamdmicdieeolaa
