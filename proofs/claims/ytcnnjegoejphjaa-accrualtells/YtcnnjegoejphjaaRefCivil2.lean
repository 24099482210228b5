/-
  The document's own answer to chapter 2: the walks of Of and Shift.
-/
import Derived.Test.YtcnnjegoejphjaaRefCivil
namespace Go.Proofs.Ytcnnjegoejphjaa
open Go.RowKit

theorem Cal.num_last : Cal.num 9999 12 31 = 3652058 := by decide +kernel
theorem Cal.num_month (y m : Int) (y1 : 1 ≤ y) (y2 : y ≤ 9999) (m1 : 1 ≤ m) (m2 : m ≤ 12) : Cal.num y m 1 = Cal.dby y + Cal.cum y m := by
  have l := Cal.last_28 y1 y2 m1 m2
  rw [Cal.num_right (Cal.rightB_mk (by omega) (by omega))]; omega

set_option maxHeartbeats 1000000 in
theorem refOf_no (n : Int) (w : World) (h : n < 0 ∨ 3652059 ≤ n) :
    Calls Try.prog 22 #[.int .i64 n] w fun e w' => e = .returned (.agg #[.int .i64 0, .int .i64 0, .int .i64 0]) ∧ Below w.heap.size w w' := by
  have hbel : Below w.heap.size w (w.alloc (.cells #[.int .i64 0, .int .i64 0, .int .i64 0] 29)) := (Below.refl _ _).alloc (Nat.le_refl _) _
  rcases h with h | h
  · go_enter Try.func22, Try.ntmps22
    go_wp2
    exact bodyPost_ret (v := .agg #[.int .i64 0, .int .i64 0, .int .i64 0]) (by simp [results, Try.results22, go_sem]) rfl ⟨rfl, hbel⟩
  · have h' : ¬ n < 0 := by omega
    have h2 : 3652058 < n := by omega
    go_enter Try.func22, Try.ntmps22
    go_wp2_with (go_at_call 24; refine (refNumber_any _ _ _ _).mono ?_; rintro e w1 ⟨rfl, b1⟩; rw [Cal.num_last]; obtain ⟨hc, hf⟩ := bcell b1)
    exact bodyPost_ret (v := .agg #[.int .i64 0, .int .i64 0, .int .i64 0]) (by simp [results, Try.results22, go_sem, hc]) rfl ⟨rfl, (((below_then hbel b1).setCell (by simp) _).setCell (by simp) _).setCell (by simp) _⟩

set_option maxHeartbeats 2000000 in
theorem refOf_yes (n : Int) (w : World) (h0 : 0 ≤ n) (h1 : n < 3652059) :
    Calls Try.prog 22 #[.int .i64 n] w fun e w' => (∃ y m d : Int, e = .returned (.agg #[.int .i64 y, .int .i64 m, .int .i64 d]) ∧ Cal.rightB y m d = true ∧ Cal.num y m d = n) ∧ Below w.heap.size w w' := by
  have hbel : Below w.heap.size w (w.alloc (.cells #[.int .i64 0, .int .i64 0, .int .i64 0] 29)) := (Below.refl _ _).alloc (Nat.le_refl _) _
  have hg : Cal.dby (1 + n / 366) ≤ n := by unfold Cal.dby; omega
  go_enter Try.func22, Try.ntmps22
  go_wp2_with (go_at_call 24; refine (refNumber_any _ _ _ _).mono ?_; rintro e w1 ⟨rfl, b1⟩; rw [Cal.num_last])
  generalize hW : w.alloc (.cells #[.int .i64 0, .int .i64 0, .int .i64 0] 29) = W at hbel b1
  have cW : ∀ wx, Below W.heap.size W wx → (wx.cell? ⟨w.heap.size, 0, none⟩ = some (.int .i64 0) ∧ wx.cell? ⟨w.heap.size, 1, none⟩ = some (.int .i64 0) ∧ wx.cell? ⟨w.heap.size, 2, none⟩ = some (.int .i64 0)) ∧ (wx.frozen? ⟨w.heap.size, 0, none⟩ = false ∧ wx.frozen? ⟨w.heap.size, 1, none⟩ = false ∧ wx.frozen? ⟨w.heap.size, 2, none⟩ = false) := by
    intro wx b
    subst hW
    refine ⟨⟨cell_keep b (by simp), cell_keep b (by simp), cell_keep b (by simp)⟩, ?_, ?_, ?_⟩ <;> (rw [(bcell b).2 _ _ (by simp)]; simp [go_sem])
  go_loopw [3] (fun t wr => ∃ y : Int, 1 ≤ y ∧ y ≤ 9999 ∧ Cal.dby y ≤ n ∧ t = .int .i64 y ∧ Below W.heap.size W wr) (fun t _ => (9999 - intOf t).toNat)
  case atStart => exact ⟨_, by omega, by omega, hg, rfl, b1⟩
  case round =>
    obtain ⟨y, y1, y2, hy, rfl, hB⟩ := hrel
    clear hg b1
    by_cases hc : y < 9999 ∧ Cal.dby (y + 1) ≤ n
    · obtain ⟨hlt, hd⟩ := hc
      have N1 : Hid (Cal.num (y + 1) 1 1 = Cal.dby (y + 1)) := Cal.num_first (y + 1) (by omega) (by omega)
      go_wp2_with (go_at_call 24; refine (refNumber_any _ _ _ _).mono ?_; rintro e w2 ⟨rfl, b2⟩; rw [N1.out])
      go_roundw
      case rel => exact ⟨y + 1, by omega, by omega, hd, rfl, below_then hB b2⟩
      case measure => simp [intOf]; omega
    · have hz : n < Cal.dby (y + 1) := by
        by_cases e : y = 9999
        · subst e; have := Cal.dby_end; rw [show (9999 : Int) + 1 = 10000 by rfl]; omega
        · omega
      obtain ⟨g0, g1⟩ := Cal.dby_bd y y1 (by omega)
      have HZ : Hid (n < Cal.dby y + 365 + Cal.lp y) := by show _ < _; rw [← Cal.dby_succ]; exact hz
      have N1 : Hid (y < 9999 → Cal.num (y + 1) 1 1 = Cal.dby (y + 1)) := fun h => Cal.num_first (y + 1) (by omega) (by omega)
      have NM : Hid (∀ m, 1 ≤ m → m ≤ 12 → Cal.num y m 1 = Cal.dby y + Cal.cum y m) := fun m a b => Cal.num_month y m y1 y2 a b
      clear hc
      by_cases hlt : y < 9999
      all_goals
        go_wp2_with (go_at_call 24; refine (refNumber_any _ _ _ _).mono ?_; rintro e w2 ⟨rfl, b2⟩; rw [N1.out (by omega)]; replace hB := below_then hB b2; clear b2)
        go_loopw [4] (fun k ws => ∃ m : Int, 1 ≤ m ∧ m ≤ 12 ∧ k = .int .i64 m ∧ 0 ≤ n - Cal.dby y - Cal.cum y m ∧ Below W.heap.size W ws) (fun k _ => (12 - intOf k).toNat)
        case atStart => exact ⟨1, by omega, by omega, rfl, by rw [Cal.cum_one]; omega, hB⟩
        case round =>
          obtain ⟨m, m1, m2, rfl, hr, hB2⟩ := hrel
          have HS : Hid (Cal.cum y (m + 1) = Cal.cum y m + Cal.last y m) := Cal.cum_succ y m y1 y2 m1 m2
          obtain ⟨cb0, cb1⟩ := Cal.cum_bd y m m1 (by omega)
          obtain ⟨l0, l1⟩ := Cal.last_lo y m
          by_cases hc : m < 12 ∧ Cal.dby y + Cal.cum y (m + 1) ≤ n
          · obtain ⟨hm, hd⟩ := hc
            have ND : Hid (Cal.num y (m + 1) 1 = Cal.dby y + Cal.cum y (m + 1)) := NM.out (m + 1) (by omega) (by omega)
            go_wp2_with (go_at_call 24; refine (refNumber_any _ _ _ _).mono ?_; rintro e w2 ⟨rfl, b2⟩; rw [ND.out])
            go_roundw
            case rel => exact ⟨m + 1, by omega, by omega, rfl, by omega, below_then hB2 b2⟩
            case measure => simp [intOf]; omega
          · have hv : n - Cal.dby y - Cal.cum y m < Cal.last y m := by
              by_cases e : m = 12
              · subst e; have h13 := Cal.cum_end y; have := HS.out; have := HZ.out; rw [show (12 : Int) + 1 = 13 by rfl] at *; omega
              · have := HS.out; omega
            have fin := Cal.of_end n y m hr hv
            have HF : Hid (Cal.rightB y m (n - Cal.dby y - Cal.cum y m + 1) = true ∧ Cal.num y m (n - Cal.dby y - Cal.cum y m + 1) = n) := fin
            have HN : Hid (Cal.num y m 1 = Cal.dby y + Cal.cum y m) := NM.out m m1 m2
            have HN2 : Hid (m < 12 → Cal.num y (m + 1) 1 = Cal.dby y + Cal.cum y (m + 1)) := fun g => NM.out (m + 1) (by omega) (by omega)
            have hd : m < 12 → n < Cal.dby y + Cal.cum y (m + 1) := fun g => by omega
            clear fin hc
            by_cases hm : m < 12
            all_goals
              go_wp2_with (go_at_call 24; refine (refNumber_any _ _ _ _).mono ?_; rintro e w2 ⟨rfl, b2⟩; (first | rw [HN.out] | rw [HN2.out (by omega)]); replace hB2 := below_then hB2 b2; have hC2 := cW _ hB2; clear b2)
              refine bodyPost_ret (v := .agg #[.int .i64 y, .int .i64 m, .int .i64 (n - (Cal.dby y + Cal.cum y m) + 1)]) (by simp [results, Try.results22, go_sem, hC2]) rfl ⟨⟨y, m, _, rfl, ?_⟩, below_set3 (below_then hbel hB2) (Nat.le_refl _)⟩
              rw [show n - (Cal.dby y + Cal.cum y m) + 1 = n - Cal.dby y - Cal.cum y m + 1 by omega]
              exact HF.out
theorem refOf_num (y m d n : Int) (w : World) (h : Cal.rightB y m d = true) (hn : Cal.num y m d = n) :
    Calls Try.prog 22 #[.int .i64 n] w fun e w' => e = .returned (.agg #[.int .i64 y, .int .i64 m, .int .i64 d]) ∧ Below w.heap.size w w' := by
  have hb := Cal.num_bd h
  refine (refOf_yes n w (by omega) (by omega)).mono ?_
  rintro e w' ⟨⟨y', m', d', rfl, h', e'⟩, b⟩
  obtain ⟨rfl, rfl, rfl⟩ := Cal.num_inj h h' (by omega)
  exact ⟨rfl, b⟩


end Go.Proofs.Ytcnnjegoejphjaa
