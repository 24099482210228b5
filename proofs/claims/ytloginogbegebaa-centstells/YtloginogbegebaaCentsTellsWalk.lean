/-
  The walk of CentsTells.
-/
import Derived.Test.YtloginogbegebaaRefMulDiv
import Derived.Test.YtloginogbegebaaBookMem
import Derived.Test.YtloginogbegebaaCentsSumsWalk
namespace Go.Proofs.Ytloginogbegebaa
open Go.RowKit

/-- The beginning of a slice that came in, as a source of an append. -/
theorem Row.src {w : World} {a : Option Addr} {len cap : Nat} {zs : List Int} (h : Row .i64 w a len cap zs) (k : Nat) (hk : k ≤ len) : Src w (.slice a k cap) k ((zs.take k).map (Value.int .i64)) := by
  rcases h with ⟨rfl, rfl, rfl, rfl⟩ | ⟨x, rfl, hl, hm, hz, hc, _⟩
  · obtain rfl : k = 0 := by omega
    exact ⟨none, 0, rfl, fun _ => ⟨rfl, rfl⟩, fun a ha => by simp at ha⟩
  · refine ⟨some x, cap, rfl, fun e => by simp at e, fun a ha j u hj => ?_⟩
    simp only [Option.some.injEq] at ha
    subst ha
    rw [List.getElem?_map, List.getElem?_take] at hj
    split at hj
    · rename_i hjk
      have hj' : j < zs.length := by omega
      rw [List.getElem?_eq_getElem hj'] at hj
      simp only [Option.map_some, Option.some.injEq] at hj
      subst hj
      have := hc j hj'
      rw [this]
      simp [hj']
    · simp at hj

theorem Src.below {w w' : World} {x : Value} {m : Nat} {news : List Value} (h : Src w x m news) (hb : Below w.heap.size w w') : Src w' x m news := by
  obtain ⟨ad, c, rfl, h1, h2⟩ := h
  refine ⟨ad, c, rfl, h1, fun a ha j u hj => ?_⟩
  have := h2 a ha j u hj
  rw [hb.cell (p := a.add j) (cell_block this)]
  exact this

theorem rightL_next (L : List Int) (k : Nat) (h : k < L.length) : rightL (L.take (k + 1)) = (rightL (L.take k) && (decide (0 ≤ L.getD k 0) && decide (L.getD k 0 ≤ 1152921504606846976))) := by
  unfold rightL
  rw [List.take_succ_eq_append_getElem h, List.all_append]
  simp [h]

set_option maxRecDepth 100000 in
set_option maxHeartbeats 2000000 in
theorem centsTells_any (n fac per how : Int) (a : Option Addr) (len cap : Nat) (zs : List Int) (w : World) (hrow : Row .i64 w a len cap zs) :
    Calls Try.prog 4 #[.int .i64 n, .int .i64 fac, .int .i64 per, .int .i64 how, .slice a len cap] w fun e w' => e = .returned (.bool true) ∧ Below w.heap.size w w' := by
  obtain ⟨i0, hi, hz0, hz1, hz2⟩ := info_parts Try.info_int
  obtain ⟨hlen, hm, hzl, _⟩ := hrow.cells
  obtain ⟨m, hmin⟩ : ∃ m, min len 30 = m := ⟨_, rfl⟩
  have hml : m ≤ len := by omega
  have hm30 : m ≤ 30 := by omega
  have HMin : Hid (min len 30 = m) := hmin
  have b0 : Below w.heap.size w (w.alloc (.cells #[] 3)) := (Below.refl _ _).alloc (Nat.le_refl _) _
  have HSrc : Hid (Src (w.alloc (.cells #[] 3)) (.slice a m cap) m ((zs.take m).map (Value.int .i64))) := (hrow.src m hml).below b0
  have HOwn : Hid ((w.alloc (.cells #[] 3)).ownsRow w.heap.size 3 1 (.slice (some ⟨w.heap.size, 0, none⟩) 0 0) 0 []) := World.ownsRow_lit (base := w.heap.size) (size := 1) w #[] 0 (Nat.le_refl _) (by unfold maxLen; omega) rfl
  have HB0 : Hid (Below w.heap.size w (w.alloc (.cells #[] 3))) := b0
  have HLen : Hid ((zs.take m).length = m) := by show _ = _; rw [List.length_take]; omega
  unfold maxLen at hm
  clear hrow b0 hmin
  generalize zs.take m = L at *
  go_enter Try.func4, Try.ntmps4
  go_upto_region 1 with fail
  go_cut [11] (fun v wx => wx.ownsRow w.heap.size 3 1 v m (L.map (Value.int .i64)) ∧ Below w.heap.size w wx)
  case first =>
    cases a with
    | none =>
      by_cases h30 : 30 < len
      · obtain rfl : m = 30 := by have := HMin.out; omega
        go_wp2_with (at_builtin; refine wpList_append_src rfl (.tmp 24) (.tmp 29) 27 rfl w.heap.size 3 i0 (.int .i64 0) 1 8 Try.underlying27 hi hz0 hz1 hz2 rfl (by decide) _ _ _ rfl HOwn.out _ _ (L.map (Value.int .i64)) rfl HSrc.out (by rw [List.length_map, HLen.out, Nat.mul_one]) (ints_oneCell' _) (by unfold maxLen; omega) (by omega) (by simp) ?_; intro v1 w1 o1 g1 _)
        go_meet
        case rel => exact ⟨by have := o1; rw [Nat.zero_add, List.nil_append] at this; exact this, below_grown HB0.out g1 (fun k h => (HOwn.out.lt k h).1)⟩
      · obtain rfl : m = len := by have := HMin.out; omega
        go_wp2_with (at_builtin; refine wpList_append_src rfl (.tmp 24) (.tmp 29) 27 rfl w.heap.size 3 i0 (.int .i64 0) 1 8 Try.underlying27 hi hz0 hz1 hz2 rfl (by decide) _ _ _ rfl HOwn.out _ _ (L.map (Value.int .i64)) rfl HSrc.out (by rw [List.length_map, HLen.out, Nat.mul_one]) (ints_oneCell' _) (by unfold maxLen; omega) (by omega) (by simp) ?_; intro v1 w1 o1 g1 _)
        go_meet
        case rel => exact ⟨by have := o1; rw [Nat.zero_add, List.nil_append] at this; exact this, below_grown HB0.out g1 (fun k h => (HOwn.out.lt k h).1)⟩
    | some x =>
      by_cases h30 : 30 < len
      · obtain rfl : m = 30 := by have := HMin.out; omega
        go_wp2_with (at_builtin; refine wpList_append_src rfl (.tmp 24) (.tmp 29) 27 rfl w.heap.size 3 i0 (.int .i64 0) 1 8 Try.underlying27 hi hz0 hz1 hz2 rfl (by decide) _ _ _ rfl HOwn.out _ _ (L.map (Value.int .i64)) rfl HSrc.out (by rw [List.length_map, HLen.out, Nat.mul_one]) (ints_oneCell' _) (by unfold maxLen; omega) (by omega) (by simp) ?_; intro v1 w1 o1 g1 _)
        go_meet
        case rel => exact ⟨by have := o1; rw [Nat.zero_add, List.nil_append] at this; exact this, below_grown HB0.out g1 (fun k h => (HOwn.out.lt k h).1)⟩
      · obtain rfl : m = len := by have := HMin.out; omega
        go_wp2_with (at_builtin; refine wpList_append_src rfl (.tmp 24) (.tmp 29) 27 rfl w.heap.size 3 i0 (.int .i64 0) 1 8 Try.underlying27 hi hz0 hz1 hz2 rfl (by decide) _ _ _ rfl HOwn.out _ _ (L.map (Value.int .i64)) rfl HSrc.out (by rw [List.length_map, HLen.out, Nat.mul_one]) (ints_oneCell' _) (by unfold maxLen; omega) (by omega) (by simp) ?_; intro v1 w1 o1 g1 _)
        go_meet
        case rel => exact ⟨by have := o1; rw [Nat.zero_add, List.nil_append] at this; exact this, below_grown HB0.out g1 (fun k h => (HOwn.out.lt k h).1)⟩
  case rest =>
  obtain ⟨hown, hbel⟩ := hcut
  have hreads := own_reads hown
  obtain ⟨a1, c1, e1, _, _, hcase⟩ := id hreads
  rw [HLen.out] at e1
  subst e1
  have HRd : Hid (Reads wc (.slice a1 m c1) L) := hreads
  clear hown hreads
  go_wp2_with fail
  refine (roomy_any (.slice a1 m c1) L 7 _ HRd.out (by rw [HLen.out]; omega)).mono ?_
  rintro e w2 ⟨rfl, o2, b2⟩
  rw [HLen.out] at o2 ⊢
  have r2 := own_reads o2
  have d2 := HRd.out.below b2
  have k2 := below_then hbel b2
  clear o2 hbel b2 HRd hcase
  go_wp2_with fail
  refine (mulDiv_any _ _ _ _ _).mono ?_
  rintro e w3 ⟨rfl, b3⟩
  go_wp2_with fail
  refine (refMulDiv_any _ _ _ _ _).mono ?_
  rintro e w4 ⟨rfl, b4⟩
  have r4 := (r2.below b3).below b4
  have d4 := (d2.below b3).below b4
  have k4 := below_then (below_then k2 b3) b4
  clear r2 d2 k2 b3 b4
  have t4 := r4.take m (by omega)
  have et : (L ++ List.replicate 80 (7 : Int)).take m = L := by
    have := HLen.out
    rw [← this]
    exact List.take_left
  rw [et] at t4
  clear et
  go_wp2_with fail
  refine (sum_any _ _ _ t4).mono ?_
  rintro e w5 ⟨rfl, h5⟩
  subst h5
  go_wp2_with fail
  refine (refSum_any _ _ _ d4).mono ?_
  rintro e w5 ⟨rfl, h5⟩
  subst h5
  go_wp2_with fail
  generalize mdV n fac per how = V
  generalize mdB n fac per how = B
  generalize (sumFrom L 0).getD 0 = S
  generalize (sumFrom L 0).isSome = T
  have HR4 : Hid (Reads w5 (.slice (some ⟨wc.heap.size, 0, none⟩) (m + 80) (m + 80)) (L ++ List.replicate 80 7)) := r4
  have HD4 : Hid (Reads w5 (.slice a1 m c1) L) := d4
  have HK4 : Hid (Below w.heap.size w w5) := k4
  clear r4 d4 k4 t4 HB0 HOwn HSrc
  go_loop [21, 64] (fun t i => ∃ k : Nat, k ≤ m ∧ i = .int .i64 k ∧ t = .bool (rightL (L.take k))) (fun _ i => m - (intOf i).toNat)
  case atStart => exact ⟨0, Nat.zero_le _, rfl, rfl⟩
  case round =>
    obtain ⟨k, hk, rfl, rfl⟩ := hrel
    by_cases hlt : k < m
    · obtain ⟨b, off, rfl, hx⟩ : ∃ b off, a1 = some ⟨b, off, none⟩ ∧ w5.cell? ⟨b, off + k, none⟩ = some (.int .i64 (L.getD k 0)) := by
        obtain ⟨a', c', e', _, _, rfl | ⟨b, off, rfl, hc⟩⟩ := HD4.out
        · have := HLen.out; simp at this; omega
        · simp only [Value.slice.injEq] at e'
          exact ⟨b, off, e'.1, hc k (by rw [HLen.out]; exact hlt)⟩
      have hnx := rightL_next L k (by rw [HLen.out]; exact hlt)
      generalize L.getD k 0 = x at hx hnx
      generalize rightL (L.take k) = t at hnx ⊢
      have HX : Hid (rightL (L.take (k + 1)) = (t && (decide (0 ≤ x) && decide (x ≤ 1152921504606846976)))) := hnx
      clear hnx HR4 HD4 HK4
      cases t
      · go_wp2
        go_round
        case rel => exact ⟨k + 1, by omega, by go_num, by rw [HX.out]; rfl⟩
        case measure => simp [intOf]; omega
      · by_cases h0 : 0 ≤ x
        · go_wp2
          go_round
          case rel => exact ⟨k + 1, by omega, by go_num, by rw [HX.out]; simp [h0]⟩
          case measure => simp [intOf]; omega
        · go_wp2
          go_round
          case rel => exact ⟨k + 1, by omega, by go_num, by rw [HX.out, decide_eq_false (p := 0 ≤ x) (by omega)]; simp; try omega⟩
          case measure => simp [intOf]; omega
    · have e : L.take k = L := List.take_of_length_le (by rw [HLen.out]; omega)
      rw [e]
      clear e
      go_wp2_with (first
        | (go_at_call 14; refine (right_any _ _ _ HD4.out).mono ?_; rintro e w6 ⟨rfl, h6⟩; subst h6)
        | (go_at_call 15; refine (intact_any wc.heap.size m (m + 80) (.slice a1 m c1) L 7 _ HLen.out (by omega) (by omega) HR4.out HD4.out).mono ?_; rintro e w7 ⟨rfl, m7, rfl⟩)
        | (go_at_call 3; refine (centsRuns_any _).mono ?_; rintro e w8 ⟨rfl, b8⟩))
      go_ret
      exact ⟨rfl, below_then (below_draws HK4.out m7) b8⟩

theorem centsTells_row (n fac per how : Int) (a : Option Addr) (len cap : Nat) (zs : List Int) (w : World) (_w0 : (Lit.int .i64 n).wf = true) (_w1 : (Lit.int .i64 fac).wf = true) (_w2 : (Lit.int .i64 per).wf = true) (_w3 : (Lit.int .i64 how).wf = true) (hrow : Row .i64 w a len cap zs) :
    Calls Try.prog 4 #[.int .i64 n, .int .i64 fac, .int .i64 per, .int .i64 how, .slice a len cap] w fun e w' => e = .returned (.bool true) ∧ Below w.heap.size w w' := centsTells_any n fac per how a len cap zs w hrow

end Go.Proofs.Ytloginogbegebaa
