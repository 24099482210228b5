/-
  Package share: the walk of byLost, and of cmp.Compare and cmp.Or that it calls; what slices.SortFunc lays by it.
-/
import Derived.Test.YtmchjfiaphkpdaaBase
import Derived.Shelf.SlSortCmp.KitK
namespace Go.Proofs.Ytmchjfiaphkpdaa
open Go.RowKit Go.Shelf Go.Lib Go.Sort

def cmpI (x y : Int) : Int := if x < y then -1 else if y < x then 1 else 0

theorem isNaN_any (x : Int) (w : World) : Calls Try.prog 48 #[.int .i64 x] w fun e w' => e = .returned (.bool false) ∧ w' = w := by
  go_enter Try.func48, Try.ntmps48
  go_wp2
  go_ret
  exact ⟨rfl, rfl⟩

theorem compare_any (x y : Int) (w : World) : Calls Try.prog 37 #[.int .i64 x, .int .i64 y] w fun e w' => e = .returned (.int .i64 (cmpI x y)) ∧ w' = w := by
  unfold cmpI
  by_cases h : x < y
  · rw [if_pos h]
    go_enter Try.func37, Try.ntmps37
    go_wp2_with (go_at_call 48; refine (isNaN_any _ _).mono ?_; rintro e w' ⟨rfl, rfl⟩)
    go_ret
    exact ⟨rfl, rfl⟩
  · rw [if_neg h]
    by_cases g : y < x
    · rw [if_pos g]
      go_enter Try.func37, Try.ntmps37
      go_wp2_with (go_at_call 48; refine (isNaN_any _ _).mono ?_; rintro e w' ⟨rfl, rfl⟩)
      go_ret
      exact ⟨rfl, rfl⟩
    · rw [if_neg g]
      go_enter Try.func37, Try.ntmps37
      go_wp2_with (go_at_call 48; refine (isNaN_any _ _).mono ?_; rintro e w' ⟨rfl, rfl⟩)
      go_ret
      exact ⟨rfl, rfl⟩

/-- The first of two that isn't 0. -/
def orI (c d : Int) : Int := if c = 0 then d else c

theorem or_two (b : Nat) (c d : Int) (w : World) (h0 : w.cell? ⟨b, 0, none⟩ = some (.int .i64 c)) (h1 : w.cell? ⟨b, 1, none⟩ = some (.int .i64 d)) :
    Calls Try.prog 36 #[.slice (some ⟨b, 0, none⟩) 2 2] w fun e w' => e = .returned (.int .i64 (orI c d)) ∧ w' = w := by
  unfold orI
  by_cases h : c = 0
  · rw [if_pos h]
    subst h
    go_enter Try.func36, Try.ntmps36
    go_wp2
    go_loop [8] (fun i => ∃ k : Nat, i = .int .i64 k ∧ (k = 0 ∨ k = 1 ∨ (k = 2 ∧ d = 0))) (fun i => 2 - (intOf i).toNat)
    case atStart => exact ⟨0, rfl, Or.inl rfl⟩
    case round =>
      obtain ⟨k, rfl, rfl | rfl | ⟨rfl, rfl⟩⟩ := hrel
      · go_wp2
        go_round
        case rel => exact ⟨1, rfl, Or.inr (Or.inl rfl)⟩
        case measure => simp [intOf]
      · by_cases g : d = 0
        · subst g
          go_wp2
          go_round
          case rel => exact ⟨2, rfl, Or.inr (Or.inr ⟨rfl, by simp⟩)⟩
          case measure => simp [intOf]
        · go_wp2
          go_ret
          exact ⟨rfl, rfl⟩
      · go_wp2
        go_ret
        exact ⟨rfl, rfl⟩
  · rw [if_neg h]
    go_enter Try.func36, Try.ntmps36
    go_wp2
    go_loop [8] (fun i => i = .int .i64 0) (fun _ => 0)
    case atStart => rfl
    case round =>
      subst hrel
      go_wp2
      go_ret
      exact ⟨rfl, rfl⟩

/-- What byLost tells of two: the place, and what was lost there. -/
def lostI (x y : Int × Int) : Int := orI (cmpI y.2 x.2) (cmpI x.1 y.1)

/-- A world that draws and new blocks alone part from W. -/
def GrownOf (W w : World) : Prop := ∃ q os', w = grow (W.drewN q) os'
theorem GrownOf.refl (W : World) : GrownOf W W := ⟨0, #[], by rw [grow_empty]; rfl⟩
theorem GrownOf.drewN {W w : World} (h : GrownOf W w) (n : Nat) : GrownOf W (w.drewN n) := by
  obtain ⟨q, os, rfl⟩ := h
  exact ⟨q + n, os, by show grow ((W.drewN q).drewN n) os = _; rw [World.drewN_drewN]⟩
theorem GrownOf.drew {W w : World} (h : GrownOf W w) : GrownOf W w.drew := h.drewN 1
theorem GrownOf.alloc {W w : World} (h : GrownOf W w) (o : Obj) : GrownOf W (w.alloc o) := by
  obtain ⟨q, os, rfl⟩ := h
  exact ⟨q, os ++ #[o], by rw [alloc_eq_grow, grow_grow]⟩
theorem GrownOf.trans {W w w' : World} (h : GrownOf W w) (k : GrownOf w w') : GrownOf W w' := by
  obtain ⟨q, os, rfl⟩ := h
  obtain ⟨q', os', rfl⟩ := k
  exact ⟨q + q', os ++ os', by show grow (grow ((W.drewN q).drewN q') os) os' = _; rw [grow_grow, World.drewN_drewN]⟩
theorem GrownOf.cell {W w : World} {a : Addr} {v : Value} (h : GrownOf W w) (hc : W.cell? a = some v) : w.cell? a = some v := by
  obtain ⟨q, os, rfl⟩ := h
  exact cell_grown (World.block_lt_of_cell? W a hc) hc q os

set_option maxHeartbeats 1000000 in
theorem byLost_any (x y : Int × Int) (W : World) : Calls Try.prog 32 #[.agg #[.int .i64 x.1, .int .i64 x.2], .agg #[.int .i64 y.1, .int .i64 y.2]] W fun e w' => e = .returned (.int .i64 (lostI x y)) ∧ ∃ q os', w' = grow (W.drewN q) os' := by
  unfold lostI
  obtain ⟨x1, x2⟩ := x
  obtain ⟨y1, y2⟩ := y
  simp only
  obtain ⟨c, hc⟩ : ∃ c, cmpI y2 x2 = c := ⟨_, rfl⟩
  obtain ⟨d, hd⟩ : ∃ d, cmpI x1 y1 = d := ⟨_, rfl⟩
  rw [hc, hd]
  have C1 : Hid (cmpI y2 x2 = c) := hc
  have C2 : Hid (cmpI x1 y1 = d) := hd
  clear hc hd
  go_enter Try.func32, Try.ntmps32
  go_upto_region 1 with fail
  refine wp_letter (fun wx => GrownOf W wx ∧ wx.cell? ⟨W.heap.size, 0, none⟩ = some (.int .i64 x1) ∧ wx.cell? ⟨W.heap.size, 1, none⟩ = some (.int .i64 x2) ∧ wx.cell? ⟨W.heap.size + 1, 0, none⟩ = some (.int .i64 y1) ∧ wx.cell? ⟨W.heap.size + 1, 1, none⟩ = some (.int .i64 y2)) ?_ ?_
  · refine ⟨((GrownOf.refl _).alloc _).alloc _, ?_⟩
    simp [go_sem]
  rintro V ⟨gV, hV⟩
  have cV : ∀ wx, GrownOf V wx → wx.cell? ⟨W.heap.size, 0, none⟩ = some (.int .i64 x1) ∧ wx.cell? ⟨W.heap.size, 1, none⟩ = some (.int .i64 x2) ∧ wx.cell? ⟨W.heap.size + 1, 0, none⟩ = some (.int .i64 y1) ∧ wx.cell? ⟨W.heap.size + 1, 1, none⟩ = some (.int .i64 y2) := by
    obtain ⟨c1, c2, c3, c4⟩ := hV
    exact fun wx b => ⟨b.cell c1, b.cell c2, b.cell c3, b.cell c4⟩
  clear hV
  go_region_held3 (fun wx => GrownOf V wx ∧ wx.cell? ⟨W.heap.size, 0, none⟩ = some (.int .i64 x1) ∧ wx.cell? ⟨W.heap.size, 1, none⟩ = some (.int .i64 x2) ∧ wx.cell? ⟨W.heap.size + 1, 0, none⟩ = some (.int .i64 y1) ∧ wx.cell? ⟨W.heap.size + 1, 1, none⟩ = some (.int .i64 y2))
    (first
      | (with_reducible exact held (cV _) (GrownOf.refl _).drew)
      | (go_split_ands; with_reducible first | exact held (cV _) (by assumption) | exact held (cV _) (GrownOf.alloc (by assumption) _)))
    (first
    | ((go_at_call 37; refine (compare_any _ _ _).mono ?_; rintro e wq ⟨rfl, hq⟩; have hq := hq.symm; subst hq; (first | rw [C1.out] | rw [C2.out])))
    | ((go_at_call 36; refine (or_two _ c d _ (by simp [go_sem]) (by simp [go_sem])).mono ?_; rintro e wq ⟨rfl, hq⟩; have hq := hq.symm; subst hq)))
  rename_i hH
  have hE := hH.1
  clear hH
  go_wp2
  go_ret
  exact ⟨rfl, gV.trans hE⟩

end Go.Proofs.Ytmchjfiaphkpdaa
