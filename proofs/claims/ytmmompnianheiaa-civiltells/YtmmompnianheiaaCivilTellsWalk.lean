/-
  The walk of CivilTells.
-/
import Derived.Test.YtmmompnianheiaaCivilRunsWalk
import Derived.Test.YtmmompnianheiaaRefCivil2
namespace Go.Proofs.Ytmmompnianheiaa
open Go.RowKit

theorem Cal.date_exists : ∀ n : Nat, n < 3652059 → ∃ y m d, Cal.rightB y m d = true ∧ Cal.num y m d = n
  | 0, _ => ⟨1, 1, 1, by decide, by decide⟩
  | n + 1, h => by
    obtain ⟨y, m, d, r, e⟩ := Cal.date_exists n (by omega)
    obtain ⟨a1, a2, a3, a4, a5, a6⟩ := Cal.right_in r
    have hn := Cal.num_right r
    by_cases c1 : d < Cal.last y m
    · have r' : Cal.rightB y m (d + 1) = true := Cal.rightB_mk (by omega) (by omega)
      exact ⟨y, m, d + 1, r', by rw [Cal.num_right r']; omega⟩
    · have cs := Cal.cum_succ y m a3 a4 a5 a6
      by_cases c2 : m < 12
      · have l := Cal.last_28 a3 a4 (show 1 ≤ m + 1 by omega) (by omega)
        have r' : Cal.rightB y (m + 1) 1 = true := Cal.rightB_mk (by omega) (by omega)
        exact ⟨y, m + 1, 1, r', by rw [Cal.num_right r']; omega⟩
      · have e12 : m = 12 := by omega
        subst e12
        have ce := Cal.cum_end y
        rw [show (12 : Int) + 1 = 13 by rfl] at cs
        have ds := Cal.dby_succ y
        have y9 : y + 1 ≤ 9999 := by
          rcases Int.lt_or_le y 9999 with g | g
          · omega
          · have e9 : y = 9999 := by omega
            subst e9
            have := Cal.dby_end
            rw [show (9999 : Int) + 1 = 10000 by rfl] at ds
            omega
        have q := Cal.num_first (y + 1) (by omega) y9
        have l := Cal.last_28 (y := y + 1) (m := 1) (by omega) y9 (by omega) (by omega)
        exact ⟨y + 1, 1, 1, Cal.rightB_mk (by omega) (by omega), by rw [q]; omega⟩

/-- p, q, r are what Of tells of n. -/
def Cal.Is (n p q r : Int) : Prop := (Cal.rightB p q r = true ∧ Cal.num p q r = n) ∨ ((n < 0 ∨ 3652059 ≤ n) ∧ p = 0 ∧ q = 0 ∧ r = 0)
theorem Cal.is_any (n : Int) : ∃ p q r, Cal.Is n p q r := by
  by_cases h : 0 ≤ n ∧ n < 3652059
  · obtain ⟨y, m, d, r, e⟩ := Cal.date_exists n.toNat (by omega)
    exact ⟨y, m, d, Or.inl ⟨r, by omega⟩⟩
  · exact ⟨0, 0, 0, Or.inr ⟨by omega, rfl, rfl, rfl⟩⟩
theorem of_is (n p q r : Int) (h : Cal.Is n p q r) (w : World) :
    Calls Try.prog 10 #[.int .i64 n] w fun e w' => e = .returned (.agg #[.int .i64 p, .int .i64 q, .int .i64 r]) ∧ Below w.heap.size w w' := by
  rcases h with ⟨a, b⟩ | ⟨a, rfl, rfl, rfl⟩
  · exact of_num p q r n w a b
  · exact of_no n w a
theorem refOf_is (n p q r : Int) (h : Cal.Is n p q r) (w : World) :
    Calls Try.prog 13 #[.int .i64 n] w fun e w' => e = .returned (.agg #[.int .i64 p, .int .i64 q, .int .i64 r]) ∧ Below w.heap.size w w' := by
  rcases h with ⟨a, b⟩ | ⟨a, rfl, rfl, rfl⟩
  · exact refOf_num p q r n w a b
  · exact refOf_no n w a

attribute [local go_sem ↓] Go.wp_at_zero Go.wp_at_succ
set_option maxRecDepth 100000 in
set_option maxHeartbeats 8000000 in
theorem civilTells_any (y m d n k : Int) (_w0 : (Lit.int .i64 y).wf = true) (_w1 : (Lit.int .i64 m).wf = true) (_w2 : (Lit.int .i64 d).wf = true) (_w3 : (Lit.int .i64 n).wf = true) (_w4 : (Lit.int .i64 k).wf = true) (w : World) :
    Calls Try.prog 4 #[.int .i64 y, .int .i64 m, .int .i64 d, .int .i64 n, .int .i64 k] w fun e w' => e = .returned (.bool true) ∧ Below w.heap.size w w' := by
  obtain ⟨p, q, r, hI⟩ := Cal.is_any n
  have HI : Hid (Cal.Is n p q r) := hI
  obtain ⟨s1, h1⟩ : ∃ s1, Cal.shY y m d k = s1 := ⟨_, rfl⟩
  obtain ⟨s2, h2⟩ : ∃ s2, Cal.shM y m d k = s2 := ⟨_, rfl⟩
  obtain ⟨s3, h3⟩ : ∃ s3, Cal.shD y m d k = s3 := ⟨_, rfl⟩
  have SH : Hid (Cal.shY y m d k = s1 ∧ Cal.shM y m d k = s2 ∧ Cal.shD y m d k = s3) := ⟨h1, h2, h3⟩
  clear hI h1 h2 h3
  go_enter Try.func4, Try.ntmps4
  go_upto_region 3 with (first
    | (go_at_call 10; refine (of_is _ p q r HI.out _).mono ?_; rintro e w1 ⟨rfl, b1⟩)
    | (go_at_call 13; refine (refOf_is _ p q r HI.out _).mono ?_; rintro e w2 ⟨rfl, b2⟩))
  refine wp_letter (fun wx => Below w.heap.size w wx ∧ ∃ A X, w.heap.size = A ∧ w2.heap.size = X ∧ wx.cell? ⟨A, 0, none⟩ = some (.int .i64 y) ∧ wx.cell? ⟨A, 1, none⟩ = some (.int .i64 m) ∧ wx.cell? ⟨A, 2, none⟩ = some (.int .i64 d) ∧ wx.cell? ⟨A + 1, 0, none⟩ = some (.int .i64 y) ∧ wx.cell? ⟨A + 1, 1, none⟩ = some (.int .i64 m) ∧ wx.cell? ⟨A + 1, 2, none⟩ = some (.int .i64 d) ∧ wx.cell? ⟨X, 0, none⟩ = some (.int .i64 p) ∧ wx.cell? ⟨X, 1, none⟩ = some (.int .i64 q) ∧ wx.cell? ⟨X, 2, none⟩ = some (.int .i64 r) ∧ wx.cell? ⟨X + 1, 0, none⟩ = some (.int .i64 p) ∧ wx.cell? ⟨X + 1, 1, none⟩ = some (.int .i64 q) ∧ wx.cell? ⟨X + 1, 2, none⟩ = some (.int .i64 r)) ?_ ?_
  · refine ⟨below_alloc (below_alloc (below_then (below_then (below_alloc (below_alloc (Below.refl _ _) _) _) b1) b2) _) _, _, _, rfl, rfl, ?_⟩
    have b12 := below_alloc (below_alloc (below_then b1 b2) (.cells #[.int .i64 p, .int .i64 q, .int .i64 r] 23)) (.cells #[.int .i64 p, .int .i64 q, .int .i64 r] 29)
    refine ⟨cell_keep b12 (by simp), cell_keep b12 (by simp), cell_keep b12 (by simp), cell_keep b12 (by simp), cell_keep b12 (by simp), cell_keep b12 (by simp), ?_⟩
    simp
  rintro W ⟨bW, A, X, eA, eX, hC⟩
  rw [eA, eX]
  have cW : ∀ wx, Below W.heap.size W wx → wx.cell? ⟨A, 0, none⟩ = some (.int .i64 y) ∧ wx.cell? ⟨A, 1, none⟩ = some (.int .i64 m) ∧ wx.cell? ⟨A, 2, none⟩ = some (.int .i64 d) ∧ wx.cell? ⟨A + 1, 0, none⟩ = some (.int .i64 y) ∧ wx.cell? ⟨A + 1, 1, none⟩ = some (.int .i64 m) ∧ wx.cell? ⟨A + 1, 2, none⟩ = some (.int .i64 d) ∧ wx.cell? ⟨X, 0, none⟩ = some (.int .i64 p) ∧ wx.cell? ⟨X, 1, none⟩ = some (.int .i64 q) ∧ wx.cell? ⟨X, 2, none⟩ = some (.int .i64 r) ∧ wx.cell? ⟨X + 1, 0, none⟩ = some (.int .i64 p) ∧ wx.cell? ⟨X + 1, 1, none⟩ = some (.int .i64 q) ∧ wx.cell? ⟨X + 1, 2, none⟩ = some (.int .i64 r) := by
    obtain ⟨c1, c2, c3, c4, c5, c6, c7, c8, c9, c10, c11, c12⟩ := hC
    exact fun wx b => ⟨cell_keep b c1, cell_keep b c2, cell_keep b c3, cell_keep b c4, cell_keep b c5, cell_keep b c6, cell_keep b c7, cell_keep b c8, cell_keep b c9, cell_keep b c10, cell_keep b c11, cell_keep b c12⟩
  clear eA eX hC b1 b2
  go_cut [15, 16] (fun s t wx => ∃ G H, s = .pointer (some ⟨G, 0, none⟩) ∧ t = .pointer (some ⟨H, 0, none⟩) ∧ Below W.heap.size W wx ∧ wx.cell? ⟨G, 0, none⟩ = some (.int .i64 s1) ∧ wx.cell? ⟨G, 1, none⟩ = some (.int .i64 s2) ∧ wx.cell? ⟨G, 2, none⟩ = some (.int .i64 s3) ∧ wx.cell? ⟨H, 0, none⟩ = some (.int .i64 s1) ∧ wx.cell? ⟨H, 1, none⟩ = some (.int .i64 s2) ∧ wx.cell? ⟨H, 2, none⟩ = some (.int .i64 s3))
  case first =>
    go_region_held3 (fun wx => Below W.heap.size W wx ∧ wx.cell? ⟨A, 0, none⟩ = some (.int .i64 y) ∧ wx.cell? ⟨A, 1, none⟩ = some (.int .i64 m) ∧ wx.cell? ⟨A, 2, none⟩ = some (.int .i64 d) ∧ wx.cell? ⟨A + 1, 0, none⟩ = some (.int .i64 y) ∧ wx.cell? ⟨A + 1, 1, none⟩ = some (.int .i64 m) ∧ wx.cell? ⟨A + 1, 2, none⟩ = some (.int .i64 d) ∧ wx.cell? ⟨X, 0, none⟩ = some (.int .i64 p) ∧ wx.cell? ⟨X, 1, none⟩ = some (.int .i64 q) ∧ wx.cell? ⟨X, 2, none⟩ = some (.int .i64 r) ∧ wx.cell? ⟨X + 1, 0, none⟩ = some (.int .i64 p) ∧ wx.cell? ⟨X + 1, 1, none⟩ = some (.int .i64 q) ∧ wx.cell? ⟨X + 1, 2, none⟩ = some (.int .i64 r))
      (((try go_split_ands); refine held (cW _) ?_; repeat (first | with_reducible assumption | with_reducible refine below_set3 ?_ ?_ | with_reducible refine below_alloc ?_ _ | with_reducible refine Below.drew ?_ | with_reducible exact Below.refl _ _ | omega | (simp; omega))))
      (first
        | ((go_at_call 9; refine (shift_any _ _ _ _ _).mono ?_; rintro e wj ⟨rfl, bj⟩; rw [SH.out.1, SH.out.2.1, SH.out.2.2]; have bWj : Below W.heap.size W wj := below_thn bj (by go_split_ands; assumption); obtain ⟨hcj, hfj⟩ := bcell bj; have hsj := bj.size; (try simp at hsj); (try have hj1 : W.heap.size < wj.heap.size := by omega); (try have hj2 : W.heap.size + 1 < wj.heap.size := by omega)))
        | ((go_at_call 14; refine (refShift_any _ _ _ _ _).mono ?_; rintro e wk ⟨rfl, bk⟩; rw [SH.out.1, SH.out.2.1, SH.out.2.2]; have bWk : Below W.heap.size W wk := below_thn bk (by go_split_ands; assumption); obtain ⟨hck, hfk⟩ := bcell bk; have hsk := bk.size; (try simp at hsk); (try have hk1 : wj.heap.size < wk.heap.size := by omega); (try have hk2 : wj.heap.size + 1 < wk.heap.size := by omega); (try have hk3 : W.heap.size < wk.heap.size := by omega); (try have hk4 : W.heap.size + 1 < wk.heap.size := by omega))))
    all_goals
      rename_i hH
      have hB := hH.1
      clear hH cW SH HI
      go_wp2
      go_meet
      case rel => exact ⟨_, _, rfl, rfl, hB, by simp (maxDischargeDepth := 12) [go_sem, *]⟩
  case rest =>
    obtain ⟨G, H, rfl, rfl, hB, hG⟩ := hcut
    have bW2 := below_then bW hB
    have hC := cW _ hB
    have cV : ∀ wx, Below wc.heap.size wc wx → (wx.cell? ⟨A, 0, none⟩ = some (.int .i64 y) ∧ wx.cell? ⟨A, 1, none⟩ = some (.int .i64 m) ∧ wx.cell? ⟨A, 2, none⟩ = some (.int .i64 d) ∧ wx.cell? ⟨A + 1, 0, none⟩ = some (.int .i64 y) ∧ wx.cell? ⟨A + 1, 1, none⟩ = some (.int .i64 m) ∧ wx.cell? ⟨A + 1, 2, none⟩ = some (.int .i64 d) ∧ wx.cell? ⟨X, 0, none⟩ = some (.int .i64 p) ∧ wx.cell? ⟨X, 1, none⟩ = some (.int .i64 q) ∧ wx.cell? ⟨X, 2, none⟩ = some (.int .i64 r) ∧ wx.cell? ⟨X + 1, 0, none⟩ = some (.int .i64 p) ∧ wx.cell? ⟨X + 1, 1, none⟩ = some (.int .i64 q) ∧ wx.cell? ⟨X + 1, 2, none⟩ = some (.int .i64 r)) ∧ (wx.cell? ⟨G, 0, none⟩ = some (.int .i64 s1) ∧ wx.cell? ⟨G, 1, none⟩ = some (.int .i64 s2) ∧ wx.cell? ⟨G, 2, none⟩ = some (.int .i64 s3)) ∧ wx.cell? ⟨H, 0, none⟩ = some (.int .i64 s1) ∧ wx.cell? ⟨H, 1, none⟩ = some (.int .i64 s2) ∧ wx.cell? ⟨H, 2, none⟩ = some (.int .i64 s3) := by
      obtain ⟨c1, c2, c3, c4, c5, c6, c7, c8, c9, c10, c11, c12⟩ := hC
      obtain ⟨g1, g2, g3, g4, g5, g6⟩ := hG
      exact fun wx b => ⟨⟨cell_keep b c1, cell_keep b c2, cell_keep b c3, cell_keep b c4, cell_keep b c5, cell_keep b c6, cell_keep b c7, cell_keep b c8, cell_keep b c9, cell_keep b c10, cell_keep b c11, cell_keep b c12⟩, ⟨cell_keep b g1, cell_keep b g2, cell_keep b g3⟩, cell_keep b g4, cell_keep b g5, cell_keep b g6⟩
    clear cW hC hG bW hB
    obtain ⟨l1, hl1⟩ : ∃ l1, Cal.last y m = l1 := ⟨_, rfl⟩
    have HL : Hid (Cal.last y m = l1) := hl1
    obtain ⟨u1, hu1⟩ : ∃ u1, Cal.rightB y m d = u1 := ⟨_, rfl⟩
    have HU : Hid (Cal.rightB y m d = u1) := hu1
    obtain ⟨n1, hn1⟩ : ∃ n1, Cal.num y m d = n1 := ⟨_, rfl⟩
    have HN : Hid (Cal.num y m d = n1) := hn1
    clear hl1 hu1 hn1
    go_upto_region 4 with fail
    go_region_held3 (fun wx => Below wc.heap.size wc wx ∧ (wx.cell? ⟨A, 0, none⟩ = some (.int .i64 y) ∧ wx.cell? ⟨A, 1, none⟩ = some (.int .i64 m) ∧ wx.cell? ⟨A, 2, none⟩ = some (.int .i64 d) ∧ wx.cell? ⟨A + 1, 0, none⟩ = some (.int .i64 y) ∧ wx.cell? ⟨A + 1, 1, none⟩ = some (.int .i64 m) ∧ wx.cell? ⟨A + 1, 2, none⟩ = some (.int .i64 d) ∧ wx.cell? ⟨X, 0, none⟩ = some (.int .i64 p) ∧ wx.cell? ⟨X, 1, none⟩ = some (.int .i64 q) ∧ wx.cell? ⟨X, 2, none⟩ = some (.int .i64 r) ∧ wx.cell? ⟨X + 1, 0, none⟩ = some (.int .i64 p) ∧ wx.cell? ⟨X + 1, 1, none⟩ = some (.int .i64 q) ∧ wx.cell? ⟨X + 1, 2, none⟩ = some (.int .i64 r)) ∧ (wx.cell? ⟨G, 0, none⟩ = some (.int .i64 s1) ∧ wx.cell? ⟨G, 1, none⟩ = some (.int .i64 s2) ∧ wx.cell? ⟨G, 2, none⟩ = some (.int .i64 s3)) ∧ wx.cell? ⟨H, 0, none⟩ = some (.int .i64 s1) ∧ wx.cell? ⟨H, 1, none⟩ = some (.int .i64 s2) ∧ wx.cell? ⟨H, 2, none⟩ = some (.int .i64 s3))
      (((try go_split_ands); refine held (cV _) ?_; repeat (first | with_reducible assumption | with_reducible exact below_thn (by assumption) (by assumption) | with_reducible refine Below.drew ?_ | with_reducible exact Below.refl _ _)))
      (first
        | ((go_at_call 11; refine (last_any _ _ _).mono ?_; rintro e wn ⟨rfl, rfl⟩; rw [HL.out]))
        | ((go_at_call 15; refine (refLast_any _ _ _).mono ?_; rintro e wn ⟨rfl, rfl⟩; rw [HL.out]))
        | ((go_at_call 16; refine (right_date _ _ _ _).mono ?_; rintro e wn ⟨rfl, bn⟩; rw [HU.out]))
        | ((go_at_call 17; refine (refRight_any _ _ _ _).mono ?_; rintro e wn ⟨rfl, bn⟩; rw [HU.out]))
        | ((go_at_call 8; refine (number_any _ _ _ _).mono ?_; rintro e wn ⟨rfl, bn⟩; rw [HN.out]))
        | ((go_at_call 18; refine (refNumber_any _ _ _ _).mono ?_; rintro e wn ⟨rfl, bn⟩; rw [HN.out]))
        | ((go_at_call 3; refine (civilRuns_any _).mono ?_; rintro e wn ⟨rfl, bn⟩)))
    rename_i hH
    have hE := hH.1
    clear hH
    go_wp2
    go_ret
    exact ⟨rfl, below_then bW2 hE⟩
end Go.Proofs.Ytmmompnianheiaa
