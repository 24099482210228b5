/-
  The document's own steps: the walk.
-/
import Derived.Test.YtamdmicdieeolaaRefDP
namespace Go.Proofs.Ytamdmicdieeolaa
open Go.RowKit

set_option maxHeartbeats 4000000 in
theorem rsteps_any (v : Value) (xs : List StT) (w : World) (h : Lies 2 StT.f w v xs) :
    Calls Try.prog 30 #[v] w fun e w' => e = .returned (.bool (stepsP xs)) ∧ Below w.heap.size w w' := by
  unfold stepsP
  obtain ⟨a, cap, rfl, _, _, _, _⟩ := id h
  obtain ⟨n, hn⟩ : ∃ n, xs.length = n := ⟨_, rfl⟩
  rw [hn] at h ⊢
  have hl := h.len
  unfold maxLen at hl
  have hm : n ≤ 9223372036854775807 := by omega
  have hcap : n ≤ cap := hl.2.1
  have H : Hid (Lies 2 StT.f w (.slice a n cap) xs) := h
  have HN : Hid (xs.length = n) := hn
  obtain ⟨V, hV⟩ : ∃ V, stepsFrom [] xs = V := ⟨_, rfl⟩
  rw [hV]
  have HV : Hid (stepsFrom (xs.take 0) (xs.drop 0) = V) := hV
  clear h hl hn hV
  by_cases h1 : (n : Int) < 1
  · have HA : Hid (inL 1 16 [(n : Int)] = false) := by show _ = _; rw [inL_one, decide_eq_false (by omega)]; rfl
    go_enter Try.func30, Try.ntmps30
    go_wp2
    go_ret
    exact ⟨by rw [HA.out]; rfl, Below.refl _ _⟩
  by_cases h2 : (16 : Int) < (n : Int)
  · have HA : Hid (inL 1 16 [(n : Int)] = false) := by show _ = _; rw [inL_one, decide_eq_false (p := (n : Int) ≤ 16) (by omega), Bool.and_false]
    go_enter Try.func30, Try.ntmps30
    go_wp2
    go_ret
    exact ⟨by rw [HA.out]; rfl, Below.refl _ _⟩
  have HA : inL 1 16 [(n : Int)] = true := by rw [inL_one, decide_eq_true (by omega), decide_eq_true (by omega)]; rfl
  rw [HA, Bool.true_and]
  clear HA
  go_enter Try.func30, Try.ntmps30
  go_wp2
  go_loopw [17] (fun i wr => ∃ k : Nat, k ≤ n ∧ i = .int .i64 k ∧ stepsFrom (xs.take k) (xs.drop k) = V ∧ Below w.heap.size w wr) (fun i _ => n - (intOf i).toNat)
  case atStart => exact ⟨0, Nat.zero_le _, rfl, HV.out, Below.refl _ _⟩
  case round =>
  obtain ⟨k, hk, rfl, hr, hB⟩ := hrel
  clear h1 h2
  by_cases hlt : k < n
  · obtain ⟨b, off, x, rfl, hx, hmem, d0, d1⟩ := H.out.st k hlt
    replace d0 := cell_keep hB d0
    replace d1 := cell_keep hB d1
    rw [stepsFrom_at xs k x hx] at hr
    obtain ⟨B1, e1⟩ : ∃ B, x.ok = B := ⟨_, rfl⟩
    obtain ⟨B2, e2⟩ : ∃ B, ((xs.take k).any fun y => x.eq y) = B := ⟨_, rfl⟩
    have i1 := StT.ok_iff x
    rw [e1] at hr i1
    rw [e2] at hr
    have HR : Hid ((B1 && !B2 && stepsFrom (xs.take (k + 1)) (xs.drop (k + 1))) = V) := hr
    have LT : Hid (Lies 2 StT.f wr (.slice (some ⟨b, off, none⟩) k cap) (xs.take k)) := (H.out.take k hk).below hB
    obtain ⟨kd, rk⟩ := x
    have EA : Hid (((xs.take k).any fun y => StT.eq ⟨kd, rk⟩ y) = B2) := e2
    have I1 : Hid (B1 = true ↔ 1 ≤ kd ∧ kd ≤ 7 ∧ (kd = 3 ∨ rk = 0) ∧ 0 ≤ rk ∧ rk < 8) := i1
    clear hr e1 e2 hx hmem HV i1
    simp only at d0 d1
    have k0 : (0 : Int) ≤ (k : Int) := by omega
    have k1 : (k : Int) ≤ (cap : Int) := by omega
    have k2 : (k : Int) ≤ (n : Int) := by omega
    have k3 : (k : Int) < (n : Int) := by omega
    go_upto_region 6 with fail
    refine wp_letter (fun wx => ∃ g, wr.heap.size = g ∧ Blk wx g 37 (StT.f ⟨kd, rk⟩) ∧ Below wr.heap.size wr wx) ⟨_, rfl, Blk.fresh _ _ (StT.f ⟨kd, rk⟩), below_alloc (Below.refl _ _) _⟩ ?_
    rintro W ⟨g, eg, bg, hW⟩
    rw [eg]
    clear eg d0 d1
    have c0 := bg.cell 0 _ rfl
    have c1 := bg.cell 1 _ rfl
    have hBW := below_then hB hW
    have LW : Hid (Lies 2 StT.f W (.slice (some ⟨b, off, none⟩) k cap) (xs.take k)) := LT.out.below hW
    have hcap2 : k ≤ cap := by omega
    have hm2 : k ≤ 9223372036854775807 := by omega
    clear LT hB hW
    go_cut [49] (fun c wx => c = .bool (!B1) ∧ wx = W)
    case first =>
      have I := I1.out
      clear I1 HR EA LW hBW bg
      by_cases q1 : kd < 1
      · have e : B1 = false := by cases B1 <;> simp_all; omega
        clear I
        subst e
        go_wp2
        go_meet
        case rel => exact ⟨rfl, rfl⟩
      by_cases q2 : 7 < kd
      · have e : B1 = false := by cases B1 <;> simp_all; omega
        clear I
        subst e
        go_wp2
        go_meet
        case rel => exact ⟨rfl, rfl⟩
      by_cases q3 : kd = 3
      · subst q3
        by_cases q5 : rk < 0
        · have e : B1 = false := by cases B1 <;> simp_all; omega
          clear I
          subst e
          go_wp2
          go_meet
          case rel => exact ⟨rfl, rfl⟩
        by_cases q6 : 8 ≤ rk
        · have e : B1 = false := by cases B1 <;> simp_all; omega
          clear I
          subst e
          go_wp2
          go_meet
          case rel => exact ⟨rfl, rfl⟩
        have e : B1 = true := I.2 (by omega)
        clear I
        subst e
        go_wp2
        go_meet
        case rel => exact ⟨rfl, rfl⟩
      · have q3' : (kd == 3) = false := beq_eq_false_iff_ne.2 q3
        by_cases q4 : rk = 0
        · have e : B1 = true := I.2 (by omega)
          clear I
          subst e
          subst q4
          go_wp2
          go_meet
          case rel => exact ⟨rfl, rfl⟩
        · have q4' : (rk == 0) = false := beq_eq_false_iff_ne.2 q4
          have e : B1 = false := by
            cases B1 with
            | false => rfl
            | true =>
              have := I.1 rfl
              omega
          clear I
          subst e
          go_wp2
          go_meet
          case rel => exact ⟨rfl, rfl⟩
    case rest =>
    obtain ⟨rfl, e⟩ := hcut
    obtain rfl := e
    cases B1 with
    | false =>
      have HE : Hid (V = false) := by show V = false; rw [← HR.out]; rfl
      go_wp2
      go_ret
      exact ⟨by rw [HE.out]; rfl, hBW⟩
    | true =>
    have HR2 : Hid ((!B2 && stepsFrom (xs.take (k + 1)) (xs.drop (k + 1))) = V) := HR.out
    clear HR I1
    obtain ⟨Wb, hWb⟩ : ∃ Y, Y = wc := ⟨_, rfl⟩
    subst hWb
    have HT : Hid (((xs.take k).drop 0).any (fun y => StT.eq ⟨kd, rk⟩ y) = B2) := EA.out
    go_wp2
    go_loopw [54] (fun i wx => ∃ m : Nat, m ≤ k ∧ i = .int .i64 m ∧ (((xs.take k).drop m).any fun y => StT.eq ⟨kd, rk⟩ y) = B2 ∧ Below Wb.heap.size Wb wx) (fun i _ => k - (intOf i).toNat)
    case atStart => exact ⟨0, Nat.zero_le _, rfl, HT.out, Below.refl _ _⟩
    case round =>
    obtain ⟨m, hm3, rfl, hq, hD⟩ := hrel
    clear HT EA
    replace c0 := cell_keep hD c0
    replace c1 := cell_keep hD c1
    by_cases hlt2 : m < k
    · obtain ⟨b', off', y, hb', hy, hmem, d0, d1⟩ := LW.out.st m hlt2
      simp only [Option.some.injEq, Addr.mk.injEq, and_true] at hb'
      obtain ⟨rfl, rfl⟩ := hb'
      replace d0 := cell_keep hD d0
      replace d1 := cell_keep hD d1
      have ea : (((xs.take k).drop m).any fun y => StT.eq ⟨kd, rk⟩ y) = (StT.eq ⟨kd, rk⟩ y || ((xs.take k).drop (m + 1)).any fun y => StT.eq ⟨kd, rk⟩ y) := by
        obtain ⟨hk', rfl⟩ := List.getElem?_eq_some_iff.1 hy
        rw [List.drop_eq_getElem_cons hk']
        rfl
      rw [ea] at hq
      obtain ⟨ya, yb⟩ := y
      simp only at d0 d1
      have m0 : (0 : Int) ≤ (m : Int) := by omega
      have m1 : (m : Int) < (k : Int) := by omega
      have HQ : Hid ((StT.eq ⟨kd, rk⟩ ⟨ya, yb⟩ || ((xs.take k).drop (m + 1)).any fun y => StT.eq ⟨kd, rk⟩ y) = B2) := hq
      clear hq ea hy hmem
      go_upto_region 11 with fail
      refine wp_letter (fun wx => ∃ g', wr.heap.size = g' ∧ Blk wx g' 37 (StT.f ⟨ya, yb⟩) ∧ Below wr.heap.size wr wx) ⟨_, rfl, Blk.fresh _ _ (StT.f ⟨ya, yb⟩), below_alloc (Below.refl _ _) _⟩ ?_
      rintro Wc ⟨g', eg, bg', hE⟩
      rw [eg]
      replace c0 := cell_keep hE c0
      replace c1 := cell_keep hE c1
      have hDE := below_then hD hE
      clear eg d0 d1 hE hD
      have d0 := bg'.cell 0 _ rfl
      have d1 := bg'.cell 1 _ rfl
      by_cases g0 : ya = kd ∧ yb = rk
      · have zq : ∀ wx, (Op.equalIn 10000 37 (.agg #[.int .i64 ya, .int .i64 yb]) (.agg #[.int .i64 kd, .int .i64 rk])).run Try.prog wx = .ok true wx := fun wx => by rw [eq_st, decide_eq_true g0]
        have HE : Hid (V = false) := by
          have : B2 = true := by rw [← HQ.out, StT.eq, decide_eq_true ⟨g0.1.symm, g0.2.symm⟩, Bool.true_or]
          show V = false
          rw [← HR2.out, this]
          rfl
        clear g0 HQ HR2
        go_wp2
        go_ret
        exact ⟨by rw [HE.out]; rfl, below_then hBW hDE⟩
      · have zq : ∀ wx, (Op.equalIn 10000 37 (.agg #[.int .i64 ya, .int .i64 yb]) (.agg #[.int .i64 kd, .int .i64 rk])).run Try.prog wx = .ok false wx := fun wx => by rw [eq_st, decide_eq_false g0]
        have HE : Hid ((((xs.take k).drop (m + 1)).any fun y => StT.eq ⟨kd, rk⟩ y) = B2) := by
          show _ = _
          rw [← HQ.out, StT.eq, decide_eq_false (fun e => g0 ⟨e.1.symm, e.2.symm⟩), Bool.false_or]
        clear g0 HQ
        go_wp2
        go_roundw
        case rel => exact ⟨m + 1, by omega, by go_num, HE.out, hDE⟩
        case measure => simp [intOf]; omega
    · obtain rfl : m = k := by omega
      have HE : Hid (stepsFrom (xs.take (m + 1)) (xs.drop (m + 1)) = V) := by
        have : B2 = false := by
          rw [← hq, List.drop_eq_nil_of_le (by rw [List.length_take]; omega)]
          rfl
        show _ = V
        rw [← HR2.out, this]
        rfl
      clear hq HR2
      go_wp2
      go_roundw
      case rel => exact ⟨m + 1, by omega, by go_num, HE.out, below_then hBW hD⟩
      case measure => simp [intOf]; omega
  · have HE : Hid (V = true) := by
      show V = true
      rw [← hr, List.drop_eq_nil_of_le (by rw [HN.out]; omega)]
      rfl
    clear hr HV
    go_wp2
    go_ret
    exact ⟨by rw [HE.out]; rfl, hB⟩
end Go.Proofs.Ytamdmicdieeolaa
