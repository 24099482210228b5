/-
  The document's own pool (cascaderef9): the walks of Begin, Balance, rightTape.
-/
import Derived.Test.YtoijgognbfifbaaPoolMore
namespace Go.Proofs.Ytoijgognbfifbaa
open Go.RowKit

theorem Try.info_rloan : (Try.prog.info? 46).map (fun i => (i.zero, i.size, i.bytes)) = some (some (.agg #[.int .i64 0, .int .i64 0, .int .i64 0, .int .i64 0, .bool false]), 5, 40) := by kernel_rfl

set_option maxHeartbeats 2000000 in
theorem refBegin_any (v : Value) (xs : List LnT) (w : World) (h : Lies 2 LnT.f w v xs) (hl : xs.length ≤ 1000) :
    Calls Try.prog 12 #[v] w fun e w' => ∃ v', e = .returned v' ∧ w'.ownsRow w.heap.size 46 5 v' xs.length ((xs.map LnT.begin).flatMap LoanP.f) ∧ Below w.heap.size w w' := by
  obtain ⟨i0, hi, hz0, hz1, hz2⟩ := info_parts Try.info_rloan
  obtain ⟨a, cap, rfl, _, _, _, _⟩ := id h
  obtain ⟨n, hn⟩ : ∃ n, xs.length = n := ⟨_, rfl⟩
  rw [hn] at h hl ⊢
  have HN : Hid (xs.length = n) := hn
  have HL : Hid (Lies 2 LnT.f w (.slice a n cap) xs) := h
  have hm : n ≤ 9223372036854775807 := by omega
  clear h hn
  go_enter Try.func12, Try.ntmps12
  go_wp2
  go_loopw [3, 8] (fun v i wr => ∃ k : Nat, k ≤ n ∧ i = .int .i64 k ∧ Below w.heap.size w wr ∧ wr.ownsRow w.heap.size 46 5 v k (((xs.take k).map LnT.begin).flatMap LoanP.f)) (fun _ i _ => n - (intOf i).toNat)
  case atStart => exact ⟨0, Nat.zero_le _, rfl, Below.refl _ _, World.ownsRow_nil _ _ _ _⟩
  case round =>
  obtain ⟨k, hk, rfl, hB, hO⟩ := hrel
  by_cases hlt : k < n
  · obtain ⟨b, off, x, rfl, hx, _, c0, c1⟩ := HL.out.ln k hlt
    replace c0 := cell_keep hB c0
    replace c1 := cell_keep hB c1
    have HX : Hid (xs[k]? = some x) := hx
    go_upto_region 5 with fail
    refine wp_letter (fun wx => ∃ Q, wr.heap.size = Q ∧ Blk wx Q 25 x.f ∧ Below w.heap.size w wx ∧ wx.ownsRow w.heap.size 46 5 u3 k (((xs.take k).map LnT.begin).flatMap LoanP.f)) ⟨_, rfl, Blk.fresh _ _ _, below_alloc hB _, hO.alloc _⟩ ?_
    clear c0 c1 hB hO hx
    rintro X ⟨Q, eQ, bQ, hB, hO⟩
    rw [eQ]
    clear eQ
    have q0 := bQ.cell 0 _ rfl; have q1 := bQ.cell 1 _ rfl
    have OW : Hid ((X.alloc (.cells #[.int .i64 x.id, .int .i64 x.bal, .int .i64 0, .int .i64 0, .bool false] 46)).ownsRow w.heap.size 46 5 u3 k (((xs.take k).map LnT.begin).flatMap LoanP.f)) := hO.alloc _
    have SR : Hid (Src (X.alloc (.cells #[.int .i64 x.id, .int .i64 x.bal, .int .i64 0, .int .i64 0, .bool false] 46)) (.slice (some ⟨X.heap.size, 0, none⟩) 1 1) 1 (LoanP.f x.begin)) := src_new X _ 1 _
    have hBa : Below w.heap.size w (X.alloc (.cells #[.int .i64 x.id, .int .i64 x.bal, .int .i64 0, .int .i64 0, .bool false] 46)) := below_alloc hB _
    have BS : Hid (w.heap.size ≤ (X.alloc (.cells #[.int .i64 x.id, .int .i64 x.bal, .int .i64 0, .int .i64 0, .bool false] 46)).heap.size) := hBa.size
    clear hB hO bQ
    go_upto_region 6 with ((refine wpList_append_src rfl (.tmp 12) (.tmp 18) 40 rfl w.heap.size 46 i0 (.agg #[.int .i64 0, .int .i64 0, .int .i64 0, .int .i64 0, .bool false]) 5 40 Try.underlying40 hi hz0 hz1 hz2 rfl (by decide) u3 k (((xs.take k).map LnT.begin).flatMap LoanP.f) rfl OW.out (.slice (some ⟨X.heap.size, 0, none⟩) 1 1) 1 (LoanP.f x.begin) rfl SR.out rfl (LoanP.one _) (by unfold maxLen; omega) (by omega) BS.out ?_; intro v' w2 ow gr _))
    have hB2 := below_grown hBa gr (fun g e => (OW.out.lt g e).1)
    have hO2 : w2.ownsRow w.heap.size 46 5 v' (k + 1) (((xs.take (k + 1)).map LnT.begin).flatMap LoanP.f) := by
      obtain ⟨h1, e⟩ := List.getElem?_eq_some_iff.1 HX.out
      rw [List.take_succ_eq_append_getElem h1, List.map_append, e]
      exact own_more _ ow
    have HO2 : Hid (w2.ownsRow w.heap.size 46 5 v' (k + 1) (((xs.take (k + 1)).map LnT.begin).flatMap LoanP.f)) := hO2
    clear hO2 ow gr OW SR BS hBa q0 q1
    go_wp2
    go_roundw
    case rel => exact ⟨k + 1, by omega, by go_num, hB2, HO2.out⟩
    case measure => simp [intOf]; omega
  · obtain rfl : k = n := by omega
    have e : xs.take k = xs := by rw [← HN.out]; exact List.take_length
    rw [e] at hO
    have HO : Hid (wr.ownsRow w.heap.size 46 5 u3 k ((xs.map LnT.begin).flatMap LoanP.f)) := hO
    clear hO e
    go_wp2
    go_ret
    exact ⟨_, rfl, HO.out, hB⟩

set_option maxHeartbeats 1000000 in
theorem refBalance_any (v : Value) (p : List LoanP) (w : World) (h : Lies 5 LoanP.f w v p) (hs : SumFits LoanP.bal p) :
    Calls Try.prog 31 #[v] w fun e w' => e = .returned (.int .i64 (sumBy LoanP.bal p)) ∧ Below w.heap.size w w' := by
  obtain ⟨S, hS⟩ : ∃ S, sumBy LoanP.bal p = S := ⟨_, rfl⟩
  rw [hS]
  obtain ⟨a, cap, rfl, _, hcm, _, _⟩ := id h
  obtain ⟨n, hn⟩ : ∃ n, p.length = n := ⟨_, rfl⟩
  have hlen := h.len
  rw [hn] at h hlen ⊢
  unfold maxLen at hlen
  have hm : n ≤ 9223372036854775807 := by omega
  have HL : Hid (Lies 5 LoanP.f w (.slice a n cap) p) := h
  have HN : Hid (p.length = n) := hn
  have HS : Hid (sumBy LoanP.bal p = S) := hS
  have HF : Hid (SumFits LoanP.bal p) := hs
  clear h hcm hlen hn hS hs
  go_enter Try.func31, Try.ntmps31
  go_wp2
  go_loopw [3, 8] (fun s i wr => ∃ k : Nat, k ≤ n ∧ i = .int .i64 k ∧ s = .int .i64 (sumBy LoanP.bal (p.take k)) ∧ Below w.heap.size w wr) (fun _ i _ => n - (intOf i).toNat)
  case atStart => exact ⟨0, Nat.zero_le _, rfl, rfl, Below.refl _ _⟩
  case round =>
  obtain ⟨k, hk, rfl, rfl, hB⟩ := hrel
  by_cases hlt : k < n
  · obtain ⟨b, off, x, rfl, hx, _, c0, c1, c2, c3, c4⟩ := HL.out.loan k hlt
    replace c0 := cell_keep hB c0
    replace c1 := cell_keep hB c1
    replace c2 := cell_keep hB c2
    replace c3 := cell_keep hB c3
    replace c4 := cell_keep hB c4
    have hs2 := HF.out (k + 1)
    have hs := HF.out k
    have hnx := sumBy_next LoanP.bal p k x hx
    generalize sumBy LoanP.bal (p.take k) = A at hs hnx
    rw [hnx] at hs2
    have HX : Hid (sumBy LoanP.bal (p.take (k + 1)) = A + x.bal) := hnx
    clear hx hnx
    go_wp2
    go_roundw
    case rel => exact ⟨k + 1, by omega, by go_num, by rw [HX.out], below_alloc hB _⟩
    case measure => simp [intOf]; omega
  · obtain rfl : k = n := by omega
    have e : p.take k = p := by rw [← HN.out]; exact List.take_length
    rw [e, HS.out]
    go_wp2
    go_ret
    exact ⟨rfl, hB⟩
set_option maxRecDepth 100000 in
set_option maxHeartbeats 4000000 in
theorem refRight_any (v : Value) (xs : List LineT) (w : World) (h : Lies 7 LineT.f w v xs) :
    Calls Try.prog 29 #[v] w fun e w' => e = .returned (.bool (rightT xs)) ∧ Below w.heap.size w w' := by
  obtain ⟨V, hV⟩ : ∃ V, rightT xs = V := ⟨_, rfl⟩
  rw [hV]
  have HL := h
  obtain ⟨a, cap, rfl, _, hcm, _, _⟩ := h
  obtain ⟨n, hn⟩ : ∃ n, xs.length = n := ⟨_, rfl⟩
  have hlen := HL.len
  rw [hn] at HL hlen ⊢
  unfold maxLen at hlen
  have hm : n ≤ 9223372036854775807 := by omega
  have H2 : Hid (Lies 7 LineT.f w (.slice a n cap) xs) := HL
  have HN : Hid (xs.length = n) := hn
  unfold rightT at hV
  rw [hn] at hV
  by_cases h64 : n ≤ 64
  · rw [decide_eq_true h64, Bool.true_and] at hV
    have HV : Hid (rightFrom 0 xs = V) := hV
    clear HL hcm hlen hn hV
    go_enter Try.func29, Try.ntmps29
    go_wp2
    go_loopw [12] (fun i wr => ∃ (k : Nat) (A : Int), k ≤ n ∧ i = .int .i64 k ∧ rightFrom A (xs.drop k) = V ∧ ((k = 0 ∧ A = 0) ∨ ∃ k' y, k = k' + 1 ∧ xs[k']? = some y ∧ y.id = A ∧ 1 ≤ A) ∧ Below w.heap.size w wr) (fun i _ => n - (intOf i).toNat)
    case atStart => exact ⟨0, 0, Nat.zero_le _, rfl, HV.out, Or.inl ⟨rfl, rfl⟩, Below.refl _ _⟩
    case round =>
    clear HV
    obtain ⟨k, A, hk, rfl, hA, hAk, hB⟩ := hrel
    by_cases hlt : k < n
    · obtain ⟨b, off, x, rfl, hx, hmem, c0, c1, c2, c3, c4, c5, c6⟩ := H2.out.line k hlt
      have hd : xs.drop k = x :: xs.drop (k + 1) := by
        obtain ⟨h1, rfl⟩ := List.getElem?_eq_some_iff.1 hx
        exact List.drop_eq_getElem_cons h1
      rw [hd, rightFrom] at hA
      have HA : Hid ((decide (A < x.id) && x.ok && rightFrom x.id (xs.drop (k + 1))) = V) := hA
      have HX : Hid (xs[k]? = some x) := hx
      replace c0 := cell_keep hB c0
      replace c1 := cell_keep hB c1
      replace c2 := cell_keep hB c2
      replace c3 := cell_keep hB c3
      replace c4 := cell_keep hB c4
      replace c5 := cell_keep hB c5
      replace c6 := cell_keep hB c6
      clear hA hd hx hmem
      go_upto_region 6 with fail
      refine wp_letter (fun wx => Below w.heap.size w wx ∧ ∃ Q, wr.heap.size = Q ∧ Blk wx Q 32 x.f) ⟨below_alloc hB _, _, rfl, Blk.fresh _ _ _⟩ ?_
      clear hB c0 c1 c2 c3 c4 c5 c6
      rintro X ⟨hX, Q, eQ, b3⟩
      rw [eQ]
      clear eQ
      have x0 := b3.cell 0 _ rfl; have x1 := b3.cell 1 _ rfl; have x2 := b3.cell 2 _ rfl; have x3 := b3.cell 3 _ rfl; have x4 := b3.cell 4 _ rfl; have x5 := b3.cell 5 _ rfl; have x6 := b3.cell 6 _ rfl
      obtain ⟨C, hC⟩ : ∃ C, decide (A < x.id ∧ 0 ≤ x.lt ∧ x.lt ≤ 12) = C := ⟨_, rfl⟩
      have HC : Hid (decide (A < x.id ∧ 0 ≤ x.lt ∧ x.lt ≤ 12) = C) := hC
      have hAk2 := hAk
      clear hC
      go_cut [44] (fun c wx => c = .bool (!C) ∧ ∃ m, wx = X.drewN m)
      case first =>
        clear hAk2
        rcases hAk with ⟨rfl, rfl⟩ | ⟨k', y, rfl, hy, rfl, hy1⟩
        · by_cases g1 : x.id < 1
          · have d1 : decide (x.id < 1) = true := decide_eq_true g1
            (have e : C = false := (by rw [← HC.out]; simp; omega); subst e; go_quiet (fail); go_wp2_with fail; go_meet; (case rel => exact ⟨by simp [*], _, rfl⟩))
          · have d1 : decide (x.id < 1) = false := decide_eq_false g1
            (by_cases g3 : x.lt < 0; (have d3 : decide (x.lt < 0) = true := decide_eq_true g3; (have e : C = false := (by rw [← HC.out]; simp; omega); subst e; go_quiet (fail); go_wp2_with fail; go_meet; (case rel => exact ⟨by simp [*], _, rfl⟩))); have d3 : decide (x.lt < 0) = false := decide_eq_false (by omega); by_cases g4 : 12 < x.lt; (have d4 : decide (12 < x.lt) = true := decide_eq_true g4; (have e : C = false := (by rw [← HC.out]; simp; omega); subst e; go_quiet (fail); go_wp2_with fail; go_meet; (case rel => exact ⟨by simp [*], _, rfl⟩))); have d4 : decide (12 < x.lt) = false := decide_eq_false (by omega); (have e : C = true := (by rw [← HC.out]; simp; omega); subst e; go_quiet (fail); go_wp2_with fail; go_meet; (case rel => exact ⟨by simp [*], _, rfl⟩)))
        · obtain ⟨by_, yo, y', e1, hy', _, y0, _⟩ := H2.out.line k' (by omega)
          simp only [Option.some.injEq, Addr.mk.injEq] at e1
          obtain ⟨rfl, rfl, _⟩ := e1
          rw [hy] at hy'
          injection hy' with hy'
          subst hy'
          replace y0 := cell_keep hX y0
          have hk1 : IntKind.i64.wrap (((k' + 1 : Nat) : Int) - 1) = (k' : Int) := by rw [wrap_in _ (by omega) (by omega)]; omega
          have hk0 : decide ((0 : Int) < ((k' + 1 : Nat) : Int)) = true := decide_eq_true (by omega)
          have hkn : (k' : Int) < (n : Int) := by omega
          clear hy
          by_cases g1 : x.id < 1
          · have d1 : decide (x.id < 1) = true := decide_eq_true g1
            (have e : C = false := (by rw [← HC.out]; simp; omega); subst e; go_quiet (fail); go_wp2_with fail; go_meet; (case rel => exact ⟨by simp [*], _, rfl⟩))
          · have d1 : decide (x.id < 1) = false := decide_eq_false g1
            by_cases g2 : x.id ≤ y.id
            · have d2 : decide (x.id ≤ y.id) = true := decide_eq_true g2
              (have e : C = false := (by rw [← HC.out]; simp; omega); subst e; go_quiet (fail); go_wp2_with fail; go_meet; (case rel => exact ⟨by simp [*], _, rfl⟩))
            · have d2 : decide (x.id ≤ y.id) = false := decide_eq_false g2
              (by_cases g3 : x.lt < 0; (have d3 : decide (x.lt < 0) = true := decide_eq_true g3; (have e : C = false := (by rw [← HC.out]; simp; omega); subst e; go_quiet (fail); go_wp2_with fail; go_meet; (case rel => exact ⟨by simp [*], _, rfl⟩))); have d3 : decide (x.lt < 0) = false := decide_eq_false (by omega); by_cases g4 : 12 < x.lt; (have d4 : decide (12 < x.lt) = true := decide_eq_true g4; (have e : C = false := (by rw [← HC.out]; simp; omega); subst e; go_quiet (fail); go_wp2_with fail; go_meet; (case rel => exact ⟨by simp [*], _, rfl⟩))); have d4 : decide (12 < x.lt) = false := decide_eq_false (by omega); (have e : C = true := (by rw [← HC.out]; simp; omega); subst e; go_quiet (fail); go_wp2_with fail; go_meet; (case rel => exact ⟨by simp [*], _, rfl⟩)))
      case rest =>
        obtain ⟨rfl, m, rfl⟩ := hcut
        cases C with
        | false =>
          have e : V = false := by
            have h1 := HC.out
            rw [← HA.out]
            by_cases h2 : A < x.id
            · cases h3 : x.ok with
              | false => simp
              | true =>
                have := (LineT.ok_iff x).1 h3
                simp at h1
                omega
            · simp [h2]
          subst e
          go_wp2
          go_ret
          exact ⟨rfl, below_draws hX _⟩
        | true =>
          have h1 := HC.out
          simp at h1
          obtain ⟨g1, g2, g3⟩ := h1
          have hA1 : 1 ≤ x.id := by
            rcases hAk2 with ⟨_, rfl⟩ | ⟨_, _, _, _, _, hy1⟩
            · omega
            · omega
          have HV : Hid (inAll 1099511627776 [x.pr, x.pp, x.it, x.rc] = true → rightFrom x.id (xs.drop (k + 1)) = V) := fun h => by
            rw [← HA.out]
            have h2 : x.ok = true := by
              unfold LineT.ok
              rw [h]
              simp [inAll, inTo, g2, g3]
            simp [g1, h2]
          have HW : Hid (inAll 1099511627776 [x.pr, x.pp, x.it, x.rc] = false → V = false) := fun h => by
            rw [← HA.out]
            have h2 : x.ok = false := by
              unfold LineT.ok
              rw [h]
              rfl
            simp [h2]
          clear HA HC hAk2 hAk
          go_upto_region 9 with fail
          refine wp_letter (fun wx => Below w.heap.size w wx ∧ ∃ G, X.heap.size = G ∧ Blk wx G 3 [.int .i64 x.pr, .int .i64 x.pp, .int .i64 x.it, .int .i64 x.rc]) ⟨below_alloc (below_draws hX _) _, _, rfl, Blk.fresh _ _ [.int .i64 x.pr, .int .i64 x.pp, .int .i64 x.it, .int .i64 x.rc]⟩ ?_
          clear x0 x1 x2 x3 x4 x5 x6
          rintro Y ⟨hY, G, eG, bG⟩
          rw [eG]
          clear eG hX b3
          have hzs : ∀ j, j < 4 → Y.cell? ⟨G, j, none⟩ = some (.int .i64 ([x.pr, x.pp, x.it, x.rc].getD j 0)) := fun j hj => by
            match j, hj with
            | 0, _ => exact bG.cell 0 _ rfl
            | 1, _ => exact bG.cell 1 _ rfl
            | 2, _ => exact bG.cell 2 _ rfl
            | 3, _ => exact bG.cell 3 _ rfl
          have HZ : Hid (∀ j, j < 4 → Y.cell? ⟨G, j, none⟩ = some (.int .i64 ([x.pr, x.pp, x.it, x.rc].getD j 0))) := hzs
          obtain ⟨zs, ez⟩ : ∃ zs, [x.pr, x.pp, x.it, x.rc] = zs := ⟨_, rfl⟩
          have hz4 : zs.length = 4 := by rw [← ez]; rfl
          rw [ez] at HV HW HZ
          clear hzs bG ez
          go_wp2_with fail
          go_loopw [55] (fun i wr => ∃ j : Nat, j ≤ 4 ∧ i = .int .i64 j ∧ inAll 1099511627776 (zs.take j) = true ∧ wr = Y) (fun i _ => 4 - (intOf i).toNat)
          case atStart => exact ⟨0, by omega, rfl, rfl, rfl⟩
          case round =>
          obtain ⟨j, hj, rfl, hJ, rfl⟩ := hrel
          by_cases hlj : j < 4
          · have c := HZ.out j hlj
            have N1 := inAll_next 1099511627776 zs j (by omega)
            rw [hJ] at N1
            have N2 : inTo 1099511627776 (zs.getD j 0) = false → V = false := fun g => HW.out (inAll_false (by omega) g)
            generalize zs.getD j 0 = z at c N1 N2
            have H3 : Hid (inAll 1099511627776 (zs.take (j + 1)) = (true && inTo 1099511627776 z)) := N1
            have H4 : Hid (inTo 1099511627776 z = false → V = false) := N2
            clear N1 N2 hJ
            by_cases g4 : z < 0
            · have hVf := H4.out (inTo_no (Or.inl g4))
              subst hVf
              go_wp2
              go_ret
              exact ⟨rfl, hY⟩
            · by_cases g5 : 1099511627776 < z
              · have hVf := H4.out (inTo_no (Or.inr g5))
                subst hVf
                go_wp2
                go_ret
                exact ⟨rfl, hY⟩
              · go_wp2
                go_roundw
                case rel => exact ⟨j + 1, by omega, by go_num, by rw [H3.out, inTo_iff.2 ⟨by omega, by omega⟩]; rfl, by first | rfl | trivial⟩
                case measure => simp [intOf]; omega
          · obtain rfl : j = 4 := by omega
            have e4 : zs.take 4 = zs := by rw [← hz4]; exact List.take_length
            rw [e4] at hJ
            have HE : Hid (rightFrom x.id (xs.drop (k + 1)) = V) := HV.out hJ
            clear HV HW HZ hJ e4
            go_wp2
            go_roundw
            case rel => exact ⟨k + 1, x.id, by omega, by go_num, HE.out, Or.inr ⟨k, x, rfl, HX.out, rfl, hA1⟩, hY⟩
            case measure => simp [intOf]; omega
    · obtain rfl : k = n := by omega
      rw [List.drop_eq_nil_of_le (by rw [HN.out]; exact Nat.le_refl _), rightFrom] at hA
      subst hA
      clear H2
      go_wp2
      go_ret
      exact ⟨rfl, hB⟩
  · rw [decide_eq_false h64, Bool.false_and] at hV
    subst hV
    have h65 : 64 < n := by omega
    clear HL hcm hlen hn H2 HN
    go_enter Try.func29, Try.ntmps29
    go_wp2
    go_ret
    exact ⟨rfl, Below.refl _ _⟩
end Go.Proofs.Ytoijgognbfifbaa
