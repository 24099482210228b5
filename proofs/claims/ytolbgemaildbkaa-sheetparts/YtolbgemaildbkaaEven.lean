/-
  Law 7's even: some entries that add up to nought.
-/
import Derived.Test.YtolbgemaildbkaaSheetNetWalk
namespace Go.Proofs.Ytolbgemaildbkaa
open Go.RowKit

theorem own_form {w : World} {base : Nat} {e : TypeId} {size : Nat} {v : Value} {n : Nat} {xs : List Value} (h : w.ownsRow base e size v n xs) (hn : 0 < n) : ∃ g cap, v = .slice (some ⟨g, 0, none⟩) n cap ∧ base ≤ g ∧ n ≤ cap ∧ cap ≤ maxLen := by
  rcases h.2 with ⟨_, h0⟩ | ⟨g, cap, cur, hv, hb, _, h1, h2, _⟩
  · omega
  · exact ⟨g, cap, hv, hb, h1, h2⟩
/-- Entries that are nought together: the first one has what the others lack. -/
structure EvenL (xs : List Ent) : Prop where
  pos : 0 < xs.length
  le : xs.length ≤ 9
  small : Small 5 8796093022208 xs
  sum : sumA xs = 0
/-- The entries so far: the first one, and k others. -/
structure EvInv (w wr : World) (v : Value) (k : Nat) (S : Int) (ys : List Ent) : Prop where
  len : ys.length = k
  own : wr.ownsRow w.heap.size 27 2 v (k + 1) ((⟨0, -S⟩ :: ys : List Ent).flatMap Ent.f)
  small : Small 5 1099511627776 ys
  sum : sumA ys = S
  below : Below w.heap.size w wr
theorem EvInv.even {w wr : World} {v : Value} {k : Nat} {S : Int} {ys : List Ent} (h : EvInv w wr v k S ys) (hk : k ≤ 8) : EvenL (⟨0, -S⟩ :: ys) := by
  have hs := h.small.sum
  rw [h.sum, h.len] at hs
  refine ⟨by simp, by simp [h.len]; omega, ?_, by rw [sumA_cons, h.sum]; simp only; omega⟩
  intro e he
  rcases List.mem_cons.1 he with rfl | he
  · exact ⟨⟨by simp, by simp⟩, by simp only; omega, by simp only; omega⟩
  · have := h.small e he
    omega

set_option maxRecDepth 1000000 in
set_option maxHeartbeats 4000000 in
theorem even_any (v0 : Value) (es : List Ent) (w : World) (hL : Lies 2 Ent.f w v0 es) :
    Calls Try.prog 19 #[v0] w fun e w' => ∃ g c xs, e = .returned (.slice (some ⟨g, 0, none⟩) xs.length c) ∧ w.heap.size ≤ g ∧ EvenL xs ∧ Lies 2 Ent.f w' (.slice (some ⟨g, 0, none⟩) xs.length c) xs ∧ Below w.heap.size w w' := by
  obtain ⟨i0, hi, hz0, hz1, hz2⟩ := info_parts Try.info_entry
  obtain ⟨a0, cap0, rfl, _, _, _, _⟩ := id hL
  obtain ⟨len0, hlen⟩ : ∃ l, es.length = l := ⟨_, rfl⟩
  rw [hlen] at hL ⊢
  have hl := hL.len
  unfold maxLen at hl
  have HL0 : Hid (Lies 2 Ent.f w (.slice a0 len0 cap0) es) := hL
  have hm : len0 ≤ 9223372036854775807 := by omega
  clear hL hl hlen
  go_enter Try.func19, Try.ntmps19
  go_upto_region 2 with fail
  have hI0 : EvInv w (w.alloc (.cells #[.int .i64 0, .int .i64 0] 27)) (.slice (some ⟨w.heap.size, 0, none⟩) 1 1) 0 0 [] :=
    ⟨rfl, World.ownsRow_lit (base := w.heap.size) (size := 2) w #[.int .i64 0, .int .i64 0] 1 (Nat.le_refl _) (by unfold maxLen; omega) rfl, Small.nil, rfl, below_alloc (Below.refl _ _) _⟩
  go_wp2_with fail
  go_loopw [3, 4] (fun v i wr => ∃ (k : Nat) (S : Int) (ys : List Ent), k ≤ 8 ∧ i = .int .i64 k ∧ EvInv w wr v k S ys) (fun _ i _ => 8 - (intOf i).toNat)
  case atStart => exact ⟨0, 0, [], by omega, rfl, hI0⟩
  case round =>
  clear hI0
  obtain ⟨k, S, ys, hk, rfl, hI⟩ := hrel
  have HI : Hid (EvInv w wr u3 k S ys) := hI
  have hS := hI.small.sum
  rw [hI.sum, hI.len] at hS
  have s0 : -8796093022208 ≤ S := by omega
  have s1 : S ≤ 8796093022208 := by omega
  obtain ⟨gv, cv, rfl, hgv, _, _⟩ := own_form hI.own (by omega)
  clear hI hS
  by_cases g1 : k < len0
  · by_cases g2 : k < 8
    · obtain ⟨b, off, ac, am, rfl, _, c0, c1⟩ := HL0.out.ent k g1
      replace c0 := cell_keep HI.out.below c0
      replace c1 := cell_keep HI.out.below c1
      have cW : ∀ wx, Below wr.heap.size wr wx → wx.cell? ⟨b, off + k * 2, none⟩ = some (.int .i64 ac) ∧ wx.cell? ⟨b, off + k * 2 + 1, none⟩ = some (.int .i64 am) := fun wx bx => ⟨cell_keep bx c0, cell_keep bx c1⟩
      obtain ⟨X, hX⟩ : ∃ X, 0 + ac % (4 - 0 + 1) = X := ⟨_, rfl⟩
      obtain ⟨Y, hY⟩ : ∃ Y, -1099511627776 + am % (1099511627776 - -1099511627776 + 1) = Y := ⟨_, rfl⟩
      have E1 : Hid (0 + ac % (4 - 0 + 1) = X) := hX
      have E2 : Hid (-1099511627776 + am % (1099511627776 - -1099511627776 + 1) = Y) := hY
      have hbx := within_bd ac 0 4 (by omega)
      have hby := within_bd am (-1099511627776) 1099511627776 (by omega)
      rw [hX] at hbx
      rw [hY] at hby
      have x0 : 0 ≤ X := hbx.1
      have x1 : X < 5 := by omega
      have y0 : -1099511627776 ≤ Y := hby.1
      have y1 : Y ≤ 1099511627776 := hby.2
      clear hX hY hbx hby
      have g3 : (k : Int) < (len0 : Int) := by omega
      go_upto_region 5 with fail
      go_cut [5] (fun p wx => ∃ Q, wr.heap.size = Q ∧ p = .pointer (some ⟨Q, 0, none⟩) ∧ Below wr.heap.size wr wx ∧ wx.cell? ⟨Q, 0, none⟩ = some (.int .i64 X) ∧ wx.cell? ⟨Q, 1, none⟩ = some (.int .i64 Y))
      case first =>
        go_region_held3 (fun wx => Below wr.heap.size wr wx ∧ wx.cell? ⟨b, off + k * 2, none⟩ = some (.int .i64 ac) ∧ wx.cell? ⟨b, off + k * 2 + 1, none⟩ = some (.int .i64 am)) (((try go_split_ands); refine held (cW _) ?_; repeat (first | with_reducible assumption | with_reducible exact below_thn (by assumption) (by assumption) | with_reducible refine Below.drew ?_ | with_reducible refine below_alloc ?_ _ | with_reducible refine below_set2 ?_ (by first | omega | (simp; omega)) | with_reducible exact Below.refl _ _))) (first | ((go_at_call 14; refine (within_any _ _ _ (by omega) (by omega) (by omega) (by omega) _).mono ?_; rintro e wq ⟨rfl, hq⟩; have hq := hq.symm; subst hq; (first | rw [E1.out] | rw [E2.out]))))
        all_goals
          go_wp2
          go_meet
          case rel => exact ⟨_, rfl, rfl, (below_alloc (Below.refl _ _) _).drew, by simp [go_sem], by simp [go_sem]⟩
      case rest =>
      obtain ⟨Q, eQ, rfl, hV, q0, q1⟩ := hcut
      have ho := own_below HI.out.own hV
      clear cW c0 c1 E1 E2
      go_wp2_with (at_builtin; refine wpList_append_src rfl (.tmp 31) (.tmp 33) 34 rfl w.heap.size 27 i0 (.agg #[.int .i64 0, .int .i64 0]) 2 16 Try.underlying34 hi hz0 hz1 hz2 rfl (by decide) _ _ _ rfl (ho.alloc _) _ 1 (Ent.f ⟨X, Y⟩) rfl (src_new _ _ 1 _) rfl (Ent.one _) ?c1 ?c2 ?c3 ?_)
      case c1 => unfold maxLen; omega
      case c2 => omega
      case c3 => have h1 := hV.size; have h2 := HI.out.below.size; simp; omega
      have hBw := below_then HI.out.below hV
      have hQ2 : wr.heap.size ≤ Q := Nat.le_of_eq eQ
      have hQ3 : Q < wc.heap.size := World.block_lt_of_cell? wc ⟨Q, 0, none⟩ q0
      intro v' w2 hown' hgrow _
      have q1' : w2.cell? ⟨Q, 1, none⟩ = some (.int .i64 Y) := by
        rw [World.cell?_of_block (w := wc.alloc (.cells #[.int .i64 X, .int .i64 Y] 27)) (a := ⟨Q, 1, none⟩) (hgrow.block Q (by simp; omega) (fun e => by have := (HI.out.own.lt Q e.symm).2; omega))]
        exact cell_keep (below_alloc (Below.refl _ _) _) q1
      have hb1 := below_append hBw ho hgrow
      obtain ⟨g2', c2, rfl, hg2, _, _⟩ := own_form hown' (by omega)
      have hcl := hown'.cells (g := g2') rfl 1 (.int .i64 (-S)) (by simp [Ent.f])
      rw [Addr.add_lit, Nat.zero_add] at hcl
      have hfr := hown'.frozenAt 1
      have hz : IntKind.i64.wrap (-S - Y) = -S - Y := wrap_in _ (by omega) (by omega)
      have how : ((w2.setCell ⟨g2', 1, none⟩ (.int .i64 (-S - Y))).drew).ownsRow w.heap.size 27 2 (.slice (some ⟨g2', 0, none⟩) (k + 1 + 1) c2) (k + 1 + 1) (((⟨0, -(S + Y)⟩ : Ent) :: (ys ++ [⟨X, Y⟩])).flatMap Ent.f) := by
        have := (hown'.stored 1 (.int .i64 (-S - Y))).1.drew
        have e : -(S + Y) = -S - Y := by omega
        rw [e]
        simpa [Ent.f] using this
      have HOW : Hid (((w2.setCell ⟨g2', 1, none⟩ (.int .i64 (-S - Y))).drew).ownsRow w.heap.size 27 2 (.slice (some ⟨g2', 0, none⟩) (k + 1 + 1) c2) (k + 1 + 1) (((⟨0, -(S + Y)⟩ : Ent) :: (ys ++ [⟨X, Y⟩])).flatMap Ent.f)) := how
      have HB2 : Hid (Below w.heap.size w (w2.setCell ⟨g2', 1, none⟩ (.int .i64 (-S - Y))).drew) := (hb1.setCell hg2 _).drew
      clear ho hgrow hV q0 q1 hBw hown' hb1 how
      go_upto_region 7 with fail
      go_region
      all_goals
        go_wp2
        go_roundw
        case rel => exact ⟨k + 1, S + Y, ys ++ [⟨X, Y⟩], by omega, by go_num, ⟨by simp [HI.out.len], HOW.out, HI.out.small.append (Small.one ⟨⟨x0, x1⟩, y0, y1⟩), by rw [sumA_append, HI.out.sum]; simp [sumA], HB2.out⟩⟩
        case measure => simp [intOf]; omega
    · go_wp2
      go_ret
      exact ⟨gv, cv, _, by simp [HI.out.len], hgv, HI.out.even hk, by have := own_lies Ent.len HI.out.own (by simp [HI.out.len]); simpa [HI.out.len] using this, HI.out.below⟩
  · go_wp2
    go_ret
    exact ⟨gv, cv, _, by simp [HI.out.len], hgv, HI.out.even hk, by have := own_lies Ent.len HI.out.own (by simp [HI.out.len]); simpa [HI.out.len] using this, HI.out.below⟩
end Go.Proofs.Ytolbgemaildbkaa
