/-
  Package deal: the walks of rightModes, rightLoans, rightNotes, balances, originals, sum, rightNumbers.
-/
import Derived.Test.YtamdmicdieeolaaDeal2
namespace Go.Proofs.Ytamdmicdieeolaa
open Go.RowKit

/-- The three lists, by number. -/
def DealT.mode (d : DealT) (k : Nat) : List StT := if k = 0 then d.s0 else if k = 1 then d.s1 else d.s2
def DealT.from (d : DealT) (k : Nat) : Bool := if k = 0 then stepsP d.s0 && (stepsP d.s1 && stepsP d.s2) else if k = 1 then stepsP d.s1 && stepsP d.s2 else if k = 2 then stepsP d.s2 else true
theorem DealT.from_at (d : DealT) (k : Nat) (h : k < 3) : d.from k = (stepsP (d.mode k) && d.from (k + 1)) := by
  rcases (show k = 0 ∨ k = 1 ∨ k = 2 by omega) with rfl | rfl | rfl <;> simp [DealT.from, DealT.mode]
theorem DealT.from_all (d : DealT) : d.from 0 = d.modes := by simp [DealT.from, DealT.modes, Bool.and_assoc]
theorem index_three (a b c v : Value) (k : Nat) (h : k < 3) (hv : (#[a, b, c] : Array Value).getD k undef = v) (wx : World) : (Instr.index 27 (.agg #[a, b, c]) (.int .i64 k)).run Try.prog wx = .ok v wx := by
  subst hv
  rcases (show k = 0 ∨ k = 1 ∨ k = 2 by omega) with rfl | rfl | rfl <;> kernel_rfl
set_option maxHeartbeats 1000000 in
theorem modes_any (l n a b c : Value) (d : DealT) (w : World) (h : DealIn w l n a b c d) :
    Calls Try.prog 23 #[d.t.v l n a b c] w fun e w' => e = .returned (.bool d.modes) ∧ Below w.heap.size w w' := by
  have H : Hid (DealIn w l n a b c d) := h
  obtain ⟨V, hV⟩ : ∃ V, d.modes = V := ⟨_, rfl⟩
  rw [hV]
  have HV : Hid (d.from 0 = V) := by show d.from 0 = V; rw [← hV, d.from_all]
  have HM : Hid (∀ k, k < 3 → d.from k = (stepsP (d.mode k) && d.from (k + 1))) := d.from_at
  have HL : Hid (∀ k, k < 3 → Lies 2 StT.f w (#[a, b, c].getD k undef) (d.mode k)) := fun k hk => by
    rcases (show k = 0 ∨ k = 1 ∨ k = 2 by omega) with rfl | rfl | rfl
    · exact h.s0
    · exact h.s1
    · exact h.s2
  have HE : Hid (d.from 3 = true) := rfl
  clear h hV
  obtain ⟨yr, mo, ba, fe, re, ta, ad, cu, t0, t1, t2, t3, t4⟩ := d.t
  unfold NumT.v
  simp only
  go_enter Try.func23, Try.ntmps23
  go_upto_region 1 with fail
  refine wp_letter (fun wx => ∃ g, w.heap.size = g ∧ Blk wx g 29 (NumT.f ⟨yr, mo, ba, fe, re, ta, ad, cu, t0, t1, t2, t3, t4⟩ l n a b c) ∧ Below w.heap.size w wx) ⟨_, rfl, Blk.fresh _ _ (NumT.f ⟨yr, mo, ba, fe, re, ta, ad, cu, t0, t1, t2, t3, t4⟩ l n a b c), below_alloc (Below.refl _ _) _⟩ ?_
  rintro W ⟨g, eg, bg, hW⟩
  rw [eg]
  clear eg
  have c15 := bg.cell 15 _ rfl
  have c16 := bg.cell 16 _ rfl
  have c17 := bg.cell 17 _ rfl
  go_wp2
  clear c15 c16 c17 bg
  go_loopw [7] (fun i wr => ∃ k : Nat, k ≤ 3 ∧ i = .int .i64 k ∧ d.from k = V ∧ Below w.heap.size w wr) (fun i _ => 3 - (intOf i).toNat)
  case atStart => exact ⟨0, Nat.zero_le _, rfl, HV.out, hW⟩
  case round =>
  obtain ⟨k, hk, rfl, hr, hB⟩ := hrel
  by_cases hlt : k < 3
  · have hl := HL.out k hlt
    have hm := HM.out k hlt
    rw [hr] at hm
    obtain ⟨v, hv⟩ : ∃ v, #[a, b, c].getD k undef = v := ⟨_, rfl⟩
    rw [hv] at hl
    have hi := index_three a b c v k hlt hv
    have L : Hid (Lies 2 StT.f wr v (d.mode k)) := hl.below hB
    obtain ⟨A, hA⟩ : ∃ A, stepsP (d.mode k) = A := ⟨_, rfl⟩
    rw [hA] at hm
    have EA : Hid (stepsP (d.mode k) = A) := hA
    have HR : Hid (V = (A && d.from (k + 1))) := hm
    clear hA hm hl hv hr
    cases A with
    | false =>
      go_wp2_with (go_at_call 11; refine (steps_any _ _ _ L.out).mono ?_; rintro e w1 ⟨rfl, d1⟩; rw [EA.out])
      go_ret
      exact ⟨by rw [HR.out]; rfl, below_then hB d1⟩
    | true =>
      go_wp2_with (go_at_call 11; refine (steps_any _ _ _ L.out).mono ?_; rintro e w1 ⟨rfl, d1⟩; rw [EA.out])
      go_roundw
      case rel => exact ⟨k + 1, by omega, by go_num, by rw [HR.out]; simp, below_then hB d1⟩
      case measure => simp [intOf]; omega
  · obtain rfl : k = 3 := by omega
    rw [HE.out] at hr
    have HR : Hid (V = true) := hr.symm
    clear hr
    go_wp2
    go_ret
    exact ⟨by rw [HR.out]; rfl, hB⟩

set_option maxHeartbeats 1000000 in
theorem rloans_any (v : Value) (xs : List LnT) (w : World) (h : Lies 2 LnT.f w v xs) :
    Calls Try.prog 18 #[v] w fun e w' => e = .returned (.bool (loansP xs)) ∧ Below w.heap.size w w' := by
  unfold loansP
  obtain ⟨a, cap, rfl, _, _, _, _⟩ := id h
  obtain ⟨n, hn⟩ : ∃ n, xs.length = n := ⟨_, rfl⟩
  rw [hn] at h ⊢
  have hl := h.len
  unfold maxLen at hl
  have hm : n ≤ 9223372036854775807 := by omega
  have H : Hid (Lies 2 LnT.f w (.slice a n cap) xs) := h
  have HN : Hid (xs.length = n) := hn
  obtain ⟨A, hA⟩ : ∃ A, inL 1 64 [(n : Int)] = A := ⟨_, rfl⟩
  rw [hA]
  have HA : Hid (inL 1 64 [(n : Int)] = A) := hA
  obtain ⟨V, hV⟩ : ∃ V, idsFrom 0 xs = V := ⟨_, rfl⟩
  rw [hV]
  have HV : Hid (idsFrom 0 (xs.drop 0) = V) := hV
  clear h hl hn hA hV
  cases A with
  | false =>
    go_enter Try.func18, Try.ntmps18
    go_wp2_with (go_at_call 25; refine (dwithin_k HA.out).mono ?_; rintro e w1 ⟨rfl, d1⟩)
    go_ret
    exact ⟨rfl, d1⟩
  | true =>
    rw [Bool.true_and]
    go_enter Try.func18, Try.ntmps18
    go_wp2_with (go_at_call 25; refine (dwithin_k HA.out).mono ?_; rintro e w1 ⟨rfl, d1⟩)
    go_loopw [3, 13] (fun p i wr => ∃ (k : Nat) (z : Int), k ≤ n ∧ i = .int .i64 k ∧ p = .int .i64 z ∧ idsFrom z (xs.drop k) = V ∧ Below w.heap.size w wr) (fun _ i _ => n - (intOf i).toNat)
    case atStart => exact ⟨0, 0, Nat.zero_le _, rfl, rfl, HV.out, d1⟩
    case round =>
    clear d1
    obtain ⟨k, z, hk, rfl, rfl, hr, hB⟩ := hrel
    by_cases hlt : k < n
    · obtain ⟨b, off, x, rfl, hx, hmem, d0, d1⟩ := H.out.ln k hlt
      replace d0 := cell_keep hB d0
      replace d1 := cell_keep hB d1
      rw [idsFrom_at xs k x hx] at hr
      have HR : Hid ((decide (z < x.id) && idsFrom x.id (xs.drop (k + 1))) = V) := hr
      clear hr hx hmem HV
      obtain ⟨id, bal⟩ := x
      simp only at d0 d1
      by_cases g : z < id
      · go_wp2
        go_roundw
        case rel => exact ⟨k + 1, id, by omega, by go_num, rfl, by rw [← HR.out]; simp [g], below_alloc hB _⟩
        case measure => simp [intOf]; omega
      · have HE : Hid (V = false) := by
          show V = false
          rw [← HR.out]
          simp only [decide_eq_false g, Bool.false_and]
        go_wp2
        go_ret
        exact ⟨by rw [HE.out]; rfl, below_alloc hB _⟩
    · have HE : Hid (V = true) := by
        show V = true
        rw [← hr, List.drop_eq_nil_of_le (by rw [HN.out]; omega)]
        rfl
      clear hr HV
      go_wp2
      go_ret
      exact ⟨by rw [HE.out]; rfl, hB⟩

set_option maxHeartbeats 2000000 in
theorem rnotes_any (v : Value) (xs : List TrT) (w : World) (h : Lies 3 TrT.f w v xs) :
    Calls Try.prog 19 #[v] w fun e w' => e = .returned (.bool (notesP xs)) ∧ Below w.heap.size w w' := by
  unfold notesP
  obtain ⟨a, cap, rfl, _, _, _, _⟩ := id h
  obtain ⟨n, hn⟩ : ∃ n, xs.length = n := ⟨_, rfl⟩
  rw [hn] at h ⊢
  have hl := h.len
  unfold maxLen at hl
  have hm : n ≤ 9223372036854775807 := by omega
  have H : Hid (Lies 3 TrT.f w (.slice a n cap) xs) := h
  have HN : Hid (xs.length = n) := hn
  obtain ⟨A, hA⟩ : ∃ A, inL 1 8 [(n : Int)] = A := ⟨_, rfl⟩
  rw [hA]
  have HA : Hid (inL 1 8 [(n : Int)] = A) := hA
  obtain ⟨V, hV⟩ : ∃ V, xs.all TrT.ok = V := ⟨_, rfl⟩
  rw [hV]
  have HV : Hid ((xs.drop 0).all TrT.ok = V) := hV
  clear h hl hn hA hV
  cases A with
  | false =>
    go_enter Try.func19, Try.ntmps19
    go_wp2_with (go_at_call 25; refine (dwithin_k HA.out).mono ?_; rintro e w1 ⟨rfl, d1⟩)
    go_ret
    exact ⟨rfl, d1⟩
  | true =>
    rw [Bool.true_and]
    go_enter Try.func19, Try.ntmps19
    go_wp2_with (go_at_call 25; refine (dwithin_k HA.out).mono ?_; rintro e w1 ⟨rfl, d1⟩)
    go_loopw [12] (fun i wr => ∃ (k : Nat), k ≤ n ∧ i = .int .i64 k ∧ (xs.drop k).all TrT.ok = V ∧ Below w.heap.size w wr) (fun i _ => n - (intOf i).toNat)
    case atStart => exact ⟨0, Nat.zero_le _, rfl, HV.out, d1⟩
    case round =>
    clear d1
    obtain ⟨k, hk, rfl, hr, hB⟩ := hrel
    by_cases hlt : k < n
    · obtain ⟨b, off, x, rfl, hx, hmem, d0, d1, d2⟩ := H.out.tr k hlt
      replace d0 := cell_keep hB d0
      replace d1 := cell_keep hB d1
      replace d2 := cell_keep hB d2
      rw [allTr_at xs k x hx] at hr
      obtain ⟨rk, og, rt⟩ := x
      simp only at d0 d1 d2
      unfold TrT.ok at hr
      simp only at hr
      obtain ⟨B1, e1⟩ : ∃ B, rankP rk = B := ⟨_, rfl⟩
      obtain ⟨B2, e2⟩ : ∃ B, inL 0 5000 [rt] = B := ⟨_, rfl⟩
      rw [e1, e2] at hr
      have E1 : Hid (rankP rk = B1) := e1
      have E2 : Hid (inL 0 5000 [rt] = B2) := e2
      have HR : Hid ((!(decide (og < 1)) && B1 && B2 && (xs.drop (k + 1)).all TrT.ok) = V) := hr
      clear hr hx hmem HV e1 e2
      go_upto_region 6 with fail
      refine wp_letter (fun wx => ∃ g, wr.heap.size = g ∧ Blk wx g 32 (TrT.f ⟨rk, og, rt⟩) ∧ Below wr.heap.size wr wx) ⟨_, rfl, Blk.fresh _ _ (TrT.f ⟨rk, og, rt⟩), below_alloc (Below.refl _ _) _⟩ ?_
      rintro W ⟨g, eg, bg, hW⟩
      rw [eg]
      clear eg d0 d1 d2
      have c0 := bg.cell 0 _ rfl
      have c1 := bg.cell 1 _ rfl
      have c2 := bg.cell 2 _ rfl
      have hBW := below_then hB hW
      by_cases g0 : og < 1
      · have HE : Hid (V = false) := by
          show V = false
          rw [← HR.out]
          simp only [decide_eq_true g0, Bool.not_true, Bool.false_and]
        clear HR
        go_wp2
        go_ret
        exact ⟨by rw [HE.out]; rfl, hBW⟩
      · cases B1 with
        | false =>
          have HE : Hid (V = false) := by
            show V = false
            rw [← HR.out]
            simp only [Bool.and_false, Bool.false_and]
          clear HR
          go_wp2_with (go_at_call 37; refine (drank_any rk _).mono ?_; rintro e w1 ⟨rfl, d1⟩; rw [E1.out])
          go_ret
          exact ⟨by rw [HE.out]; rfl, below_then hBW d1⟩
        | true =>
          cases B2 with
          | false =>
            have HE : Hid (V = false) := by
              show V = false
              rw [← HR.out]
              simp only [Bool.and_false, Bool.false_and]
            clear HR
            go_wp2_with (first | (go_at_call 37; refine (drank_any rk _).mono ?_; rintro e w1 ⟨rfl, d1⟩; rw [E1.out]; replace c2 := cell_keep d1 c2) | (go_at_call 25; refine (dwithin_k E2.out).mono ?_; rintro e w2 ⟨rfl, d2⟩))
            go_ret
            exact ⟨by rw [HE.out]; rfl, below_then (below_then hBW d1) d2⟩
          | true =>
            have HE : Hid ((xs.drop (k + 1)).all TrT.ok = V) := by
              show _ = V
              rw [← HR.out]
              simp [g0]
            clear HR
            go_wp2_with (first | (go_at_call 37; refine (drank_any rk _).mono ?_; rintro e w1 ⟨rfl, d1⟩; rw [E1.out]; replace c2 := cell_keep d1 c2) | (go_at_call 25; refine (dwithin_k E2.out).mono ?_; rintro e w2 ⟨rfl, d2⟩))
            go_roundw
            case rel => exact ⟨k + 1, by omega, by go_num, HE.out, below_then (below_then hBW d1) d2⟩
            case measure => simp [intOf]; omega
    · have HE : Hid (V = true) := by
        show V = true
        rw [← hr, List.drop_eq_nil_of_le (by rw [HN.out]; omega)]
        rfl
      clear hr HV
      go_wp2
      go_ret
      exact ⟨by rw [HE.out]; rfl, hB⟩
end Go.Proofs.Ytamdmicdieeolaa
