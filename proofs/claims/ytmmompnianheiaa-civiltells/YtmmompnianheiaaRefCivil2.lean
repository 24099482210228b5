/-
  The document's own answer to chapter 2: the walks of Of and Shift.
-/
import Derived.Test.YtmmompnianheiaaRefCivil
namespace Go.Proofs.Ytmmompnianheiaa
open Go.RowKit

theorem Cal.num_last : Cal.num 9999 12 31 = 3652058 := by decide +kernel
theorem Cal.num_month (y m : Int) (y1 : 1 ≤ y) (y2 : y ≤ 9999) (m1 : 1 ≤ m) (m2 : m ≤ 12) : Cal.num y m 1 = Cal.dby y + Cal.cum y m := by
  have l := Cal.last_28 y1 y2 m1 m2
  rw [Cal.num_right (Cal.rightB_mk (by omega) (by omega))]; omega

set_option maxHeartbeats 1000000 in
theorem refOf_no (n : Int) (w : World) (h : n < 0 ∨ 3652059 ≤ n) :
    Calls Try.prog 13 #[.int .i64 n] w fun e w' => e = .returned (.agg #[.int .i64 0, .int .i64 0, .int .i64 0]) ∧ Below w.heap.size w w' := by
  have hbel : Below w.heap.size w (w.alloc (.cells #[.int .i64 0, .int .i64 0, .int .i64 0] 29)) := (Below.refl _ _).alloc (Nat.le_refl _) _
  rcases h with h | h
  · go_enter Try.func13, Try.ntmps13
    go_wp2
    exact bodyPost_ret (v := .agg #[.int .i64 0, .int .i64 0, .int .i64 0]) (by simp [results, Try.results13, go_sem]) rfl ⟨rfl, hbel⟩
  · have h' : ¬ n < 0 := by omega
    have h2 : 3652058 < n := by omega
    go_enter Try.func13, Try.ntmps13
    go_wp2_with (go_at_call 18; refine (refNumber_any _ _ _ _).mono ?_; rintro e w1 ⟨rfl, b1⟩; rw [Cal.num_last]; obtain ⟨hc, hf⟩ := bcell b1)
    exact bodyPost_ret (v := .agg #[.int .i64 0, .int .i64 0, .int .i64 0]) (by simp [results, Try.results13, go_sem, hc]) rfl ⟨rfl, (((below_then hbel b1).setCell (by simp) _).setCell (by simp) _).setCell (by simp) _⟩

set_option maxHeartbeats 2000000 in
theorem refOf_yes (n : Int) (w : World) (h0 : 0 ≤ n) (h1 : n < 3652059) :
    Calls Try.prog 13 #[.int .i64 n] w fun e w' => (∃ y m d : Int, e = .returned (.agg #[.int .i64 y, .int .i64 m, .int .i64 d]) ∧ Cal.rightB y m d = true ∧ Cal.num y m d = n) ∧ Below w.heap.size w w' := by
  have hbel : Below w.heap.size w (w.alloc (.cells #[.int .i64 0, .int .i64 0, .int .i64 0] 29)) := (Below.refl _ _).alloc (Nat.le_refl _) _
  have hg : Cal.dby (1 + n / 366) ≤ n := by unfold Cal.dby; omega
  go_enter Try.func13, Try.ntmps13
  go_wp2_with (go_at_call 18; refine (refNumber_any _ _ _ _).mono ?_; rintro e w1 ⟨rfl, b1⟩; rw [Cal.num_last])
  generalize hW : w.alloc (.cells #[.int .i64 0, .int .i64 0, .int .i64 0] 29) = W at hbel b1
  have cW : ∀ wx, Below W.heap.size W wx → (wx.cell? ⟨w.heap.size, 0, none⟩ = some (.int .i64 0) ∧ wx.cell? ⟨w.heap.size, 1, none⟩ = some (.int .i64 0) ∧ wx.cell? ⟨w.heap.size, 2, none⟩ = some (.int .i64 0)) ∧ (wx.frozen? ⟨w.heap.size, 0, none⟩ = false ∧ wx.frozen? ⟨w.heap.size, 1, none⟩ = false ∧ wx.frozen? ⟨w.heap.size, 2, none⟩ = false) := by
    intro wx b
    subst hW
    refine ⟨⟨cell_keep b (by simp), cell_keep b (by simp), cell_keep b (by simp)⟩, ?_, ?_, ?_⟩ <;> (rw [(bcell b).2 _ _ (by simp)]; simp [go_sem])
  go_loopw [3] (fun t wr => ∃ y : Int, 1 ≤ y ∧ y ≤ 9999 ∧ Cal.dby y ≤ n ∧ t = .int .i64 y ∧ Below W.heap.size W wr) (fun t _ => (9999 - intOf t).toNat)
  case atStart => exact ⟨_, by omega, by omega, hg, rfl, b1⟩
  case round =>
    obtain ⟨y, y1, y2, hy, rfl, hB⟩ := hrel
    clear hg b1
    by_cases hc : y < 9999 ∧ Cal.dby (y + 1) ≤ n
    · obtain ⟨hlt, hd⟩ := hc
      have N1 : Hid (Cal.num (y + 1) 1 1 = Cal.dby (y + 1)) := Cal.num_first (y + 1) (by omega) (by omega)
      go_wp2_with (go_at_call 18; refine (refNumber_any _ _ _ _).mono ?_; rintro e w2 ⟨rfl, b2⟩; rw [N1.out])
      go_roundw
      case rel => exact ⟨y + 1, by omega, by omega, hd, rfl, below_then hB b2⟩
      case measure => simp [intOf]; omega
    · have hz : n < Cal.dby (y + 1) := by
        by_cases e : y = 9999
        · subst e; have := Cal.dby_end; rw [show (9999 : Int) + 1 = 10000 by rfl]; omega
        · omega
      obtain ⟨g0, g1⟩ := Cal.dby_bd y y1 (by omega)
      have HZ : Hid (n < Cal.dby y + 365 + Cal.lp y) := by show _ < _; rw [← Cal.dby_succ]; exact hz
      have N1 : Hid (y < 9999 → Cal.num (y + 1) 1 1 = Cal.dby (y + 1)) := fun h => Cal.num_first (y + 1) (by omega) (by omega)
      have NM : Hid (∀ m, 1 ≤ m → m ≤ 12 → Cal.num y m 1 = Cal.dby y + Cal.cum y m) := fun m a b => Cal.num_month y m y1 y2 a b
      clear hc
      by_cases hlt : y < 9999
      all_goals
        go_wp2_with (go_at_call 18; refine (refNumber_any _ _ _ _).mono ?_; rintro e w2 ⟨rfl, b2⟩; rw [N1.out (by omega)]; replace hB := below_then hB b2; clear b2)
        go_loopw [4] (fun k ws => ∃ m : Int, 1 ≤ m ∧ m ≤ 12 ∧ k = .int .i64 m ∧ 0 ≤ n - Cal.dby y - Cal.cum y m ∧ Below W.heap.size W ws) (fun k _ => (12 - intOf k).toNat)
        case atStart => exact ⟨1, by omega, by omega, rfl, by rw [Cal.cum_one]; omega, hB⟩
        case round =>
          obtain ⟨m, m1, m2, rfl, hr, hB2⟩ := hrel
          have HS : Hid (Cal.cum y (m + 1) = Cal.cum y m + Cal.last y m) := Cal.cum_succ y m y1 y2 m1 m2
          obtain ⟨cb0, cb1⟩ := Cal.cum_bd y m m1 (by omega)
          obtain ⟨l0, l1⟩ := Cal.last_lo y m
          by_cases hc : m < 12 ∧ Cal.dby y + Cal.cum y (m + 1) ≤ n
          · obtain ⟨hm, hd⟩ := hc
            have ND : Hid (Cal.num y (m + 1) 1 = Cal.dby y + Cal.cum y (m + 1)) := NM.out (m + 1) (by omega) (by omega)
            go_wp2_with (go_at_call 18; refine (refNumber_any _ _ _ _).mono ?_; rintro e w2 ⟨rfl, b2⟩; rw [ND.out])
            go_roundw
            case rel => exact ⟨m + 1, by omega, by omega, rfl, by omega, below_then hB2 b2⟩
            case measure => simp [intOf]; omega
          · have hv : n - Cal.dby y - Cal.cum y m < Cal.last y m := by
              by_cases e : m = 12
              · subst e; have h13 := Cal.cum_end y; have := HS.out; have := HZ.out; rw [show (12 : Int) + 1 = 13 by rfl] at *; omega
              · have := HS.out; omega
            have fin := Cal.of_end n y m hr hv
            have HF : Hid (Cal.rightB y m (n - Cal.dby y - Cal.cum y m + 1) = true ∧ Cal.num y m (n - Cal.dby y - Cal.cum y m + 1) = n) := fin
            have HN : Hid (Cal.num y m 1 = Cal.dby y + Cal.cum y m) := NM.out m m1 m2
            have HN2 : Hid (m < 12 → Cal.num y (m + 1) 1 = Cal.dby y + Cal.cum y (m + 1)) := fun g => NM.out (m + 1) (by omega) (by omega)
            have hd : m < 12 → n < Cal.dby y + Cal.cum y (m + 1) := fun g => by omega
            clear fin hc
            by_cases hm : m < 12
            all_goals
              go_wp2_with (go_at_call 18; refine (refNumber_any _ _ _ _).mono ?_; rintro e w2 ⟨rfl, b2⟩; (first | rw [HN.out] | rw [HN2.out (by omega)]); replace hB2 := below_then hB2 b2; have hC2 := cW _ hB2; clear b2)
              refine bodyPost_ret (v := .agg #[.int .i64 y, .int .i64 m, .int .i64 (n - (Cal.dby y + Cal.cum y m) + 1)]) (by simp [results, Try.results13, go_sem, hC2]) rfl ⟨⟨y, m, _, rfl, ?_⟩, below_set3 (below_then hbel hB2) (Nat.le_refl _)⟩
              rw [show n - (Cal.dby y + Cal.cum y m) + 1 = n - Cal.dby y - Cal.cum y m + 1 by omega]
              exact HF.out
theorem refOf_num (y m d n : Int) (w : World) (h : Cal.rightB y m d = true) (hn : Cal.num y m d = n) :
    Calls Try.prog 13 #[.int .i64 n] w fun e w' => e = .returned (.agg #[.int .i64 y, .int .i64 m, .int .i64 d]) ∧ Below w.heap.size w w' := by
  have hb := Cal.num_bd h
  refine (refOf_yes n w (by omega) (by omega)).mono ?_
  rintro e w' ⟨⟨y', m', d', rfl, h', e'⟩, b⟩
  obtain ⟨rfl, rfl, rfl⟩ := Cal.num_inj h h' (by omega)
  exact ⟨rfl, b⟩

set_option maxHeartbeats 2000000 in
theorem refShift_any (y m d k : Int) (w : World) :
    Calls Try.prog 14 #[.agg #[.int .i64 y, .int .i64 m, .int .i64 d], .int .i64 k] w fun e w' => e = .returned (.agg #[.int .i64 (Cal.shY y m d k), .int .i64 (Cal.shM y m d k), .int .i64 (Cal.shD y m d k)]) ∧ Below w.heap.size w w' := by
  have hbel : Below w.heap.size w ((w.alloc (.cells #[.int .i64 y, .int .i64 m, .int .i64 d] 29)).alloc (.cells #[.int .i64 0, .int .i64 0, .int .i64 0] 29)) := ((Below.refl _ _).alloc (Nat.le_refl _) _).alloc (by simp) _
  cases hr : Cal.rightB y m d
  · obtain ⟨e1, e2, e3⟩ := Cal.sh_no (y := y) (m := m) (d := d) (k := k) (by simp [Cal.shB, hr])
    rw [e1, e2, e3]
    go_enter Try.func14, Try.ntmps14
    go_wp2_with (go_at_call 17; refine (refRight_any _ _ _ _).mono ?_; rintro e w1 ⟨rfl, b1⟩; rw [hr]; obtain ⟨hc, hf⟩ := bcell b1; have hz : w.heap.size + 1 < w1.heap.size := by (have := b1.size; simp at this; omega))
    exact bodyPost_ret (v := .agg #[.int .i64 0, .int .i64 0, .int .i64 0]) (by simp [results, Try.results14, go_sem, hc]) rfl ⟨rfl, below_set3 (below_then hbel b1) (by omega)⟩
  · obtain ⟨d1, d2, y1, y2, m1, m2⟩ := Cal.right_in hr
    have d3 := (Cal.last_lo y m).2
    cases hs : Cal.shB y m d k
    · obtain ⟨e1, e2, e3⟩ := Cal.sh_no hs
      rw [e1, e2, e3]
      simp [Cal.shB, hr] at hs
      have hs' : 12 * y + m - 1 + k < 12 ∨ 120000 ≤ 12 * y + m - 1 + k := by omega
      clear hs e1 e2 e3
      by_cases hk : 120000 < k
      · clear hs'
        go_enter Try.func14, Try.ntmps14
        go_wp2_with (go_at_call 17; refine (refRight_any _ _ _ _).mono ?_; rintro e w1 ⟨rfl, b1⟩; rw [hr]; obtain ⟨hc, hf⟩ := bcell b1; have hz : w.heap.size + 1 < w1.heap.size := by (have := b1.size; simp at this; omega))
        exact bodyPost_ret (v := .agg #[.int .i64 0, .int .i64 0, .int .i64 0]) (by simp [results, Try.results14, go_sem, hc]) rfl ⟨rfl, below_set3 (below_then hbel b1) (by omega)⟩
      · by_cases hk2 : k < -120000
        · clear hs'
          go_enter Try.func14, Try.ntmps14
          go_wp2_with (go_at_call 17; refine (refRight_any _ _ _ _).mono ?_; rintro e w1 ⟨rfl, b1⟩; rw [hr]; obtain ⟨hc, hf⟩ := bcell b1; have hz : w.heap.size + 1 < w1.heap.size := by (have := b1.size; simp at this; omega))
          exact bodyPost_ret (v := .agg #[.int .i64 0, .int .i64 0, .int .i64 0]) (by simp [results, Try.results14, go_sem, hc]) rfl ⟨rfl, below_set3 (below_then hbel b1) (by omega)⟩
        · rcases hs' with hs | hs
          all_goals
            go_enter Try.func14, Try.ntmps14
            go_wp2_with (go_at_call 17; refine (refRight_any _ _ _ _).mono ?_; rintro e w1 ⟨rfl, b1⟩; rw [hr]; obtain ⟨hc, hf⟩ := bcell b1; have hz : w.heap.size + 1 < w1.heap.size := by (have := b1.size; simp at this; omega))
            exact bodyPost_ret (v := .agg #[.int .i64 0, .int .i64 0, .int .i64 0]) (by simp [results, Try.results14, go_sem, hc]) rfl ⟨rfl, below_set3 (below_then hbel b1) (by omega)⟩
    · obtain ⟨e1, e2, e3⟩ := Cal.sh_yes hs
      rw [e1, e2, e3]
      simp [Cal.shB, hr] at hs
      obtain ⟨s1, s2⟩ := hs
      have k1 : k ≤ 120000 := by omega
      have k2 : -120000 ≤ k := by omega
      have HL : Hid (∃ L, Cal.last ((12 * y + m - 1 + k) / 12) ((12 * y + m - 1 + k) % 12 + 1) = L) := ⟨_, rfl⟩
      obtain ⟨L, hL⟩ := HL.out
      rw [hL]
      have HL2 : Hid (Cal.last ((12 * y + m - 1 + k) / 12) ((12 * y + m - 1 + k) % 12 + 1) = L) := hL
      clear e1 e2 e3 hL
      by_cases hd : L < d
      · rw [show min d L = L by omega]
        go_enter Try.func14, Try.ntmps14
        go_upto_region 7 with (go_at_call 17; refine (refRight_any _ _ _ _).mono ?_; rintro e w1 ⟨rfl, b1⟩; rw [hr]; obtain ⟨hc, hf⟩ := bcell b1; have hz : w.heap.size + 1 < w1.heap.size := by (have := b1.size; simp at this; omega))
        have c2 : w1.cell? ⟨w.heap.size, 2, none⟩ = some (.int .i64 d) := by rw [hc _ _ (by simp; omega)]; simp
        have hne : w1.heap.size ≠ w.heap.size := by omega
        generalize hY : (12 * y + m - 1 + k) / 12 = Y at *
        generalize hM : (12 * y + m - 1 + k) % 12 + 1 = M at *
        have HY : Hid ((12 * y + m - 1 + k) / 12 = Y) := hY
        have HM : Hid ((12 * y + m - 1 + k) % 12 + 1 = M) := hM
        clear hY hM
        go_region_held3 (fun wx => wx.cell? ⟨w.heap.size, 2, none⟩ = some (.int .i64 d) ∧ wx.cell? ⟨w1.heap.size, 0, none⟩ = some (.int .i64 Y) ∧ wx.cell? ⟨w1.heap.size, 1, none⟩ = some (.int .i64 M))
          (first
            | go_keep
            | simp [*, World.cell?_alloc_some, World.cell?_setCell_far, World.cell?_setCell_other])
          (first | ((go_at_call 15; refine (refLast_any _ _ _).mono ?_; rintro e w' ⟨rfl, rfl⟩; rw [HL2.out])))
        clear c2
        rename_i hH
        clear hH
        go_wp2
        exact bodyPost_ret (v := .agg #[.int .i64 Y, .int .i64 M, .int .i64 L]) (by simp [results, Try.results14, go_sem, hc, hz]) rfl ⟨by rw [HY.out, HM.out], (below_alloc (below_set3 (below_then hbel b1) (by omega)) _).drew⟩
      · rw [show min d L = d by omega]
        go_enter Try.func14, Try.ntmps14
        go_upto_region 7 with (go_at_call 17; refine (refRight_any _ _ _ _).mono ?_; rintro e w1 ⟨rfl, b1⟩; rw [hr]; obtain ⟨hc, hf⟩ := bcell b1; have hz : w.heap.size + 1 < w1.heap.size := by (have := b1.size; simp at this; omega))
        have c2 : w1.cell? ⟨w.heap.size, 2, none⟩ = some (.int .i64 d) := by rw [hc _ _ (by simp; omega)]; simp
        have hne : w1.heap.size ≠ w.heap.size := by omega
        generalize hY : (12 * y + m - 1 + k) / 12 = Y at *
        generalize hM : (12 * y + m - 1 + k) % 12 + 1 = M at *
        have HY : Hid ((12 * y + m - 1 + k) / 12 = Y) := hY
        have HM : Hid ((12 * y + m - 1 + k) % 12 + 1 = M) := hM
        clear hY hM
        go_region_held3 (fun wx => wx.cell? ⟨w.heap.size, 2, none⟩ = some (.int .i64 d) ∧ wx.cell? ⟨w1.heap.size, 0, none⟩ = some (.int .i64 Y) ∧ wx.cell? ⟨w1.heap.size, 1, none⟩ = some (.int .i64 M))
          (first
            | go_keep
            | simp [*, World.cell?_alloc_some, World.cell?_setCell_far, World.cell?_setCell_other])
          (first | ((go_at_call 15; refine (refLast_any _ _ _).mono ?_; rintro e w' ⟨rfl, rfl⟩; rw [HL2.out])))
        clear c2
        rename_i hH
        clear hH
        go_wp2
        exact bodyPost_ret (v := .agg #[.int .i64 Y, .int .i64 M, .int .i64 d]) (by simp [results, Try.results14, go_sem, hc, hz]) rfl ⟨by rw [HY.out, HM.out], (below_alloc (below_set3 (below_then hbel b1) (by omega)) _).drew⟩
end Go.Proofs.Ytmmompnianheiaa
