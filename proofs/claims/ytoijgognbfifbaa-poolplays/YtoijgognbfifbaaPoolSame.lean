/-
  The walk of cascadelaw9.same: a pool that is what the document says.
-/
import Derived.Test.YtoijgognbfifbaaRefPool
namespace Go.Proofs.Ytoijgognbfifbaa
open Go.RowKit

set_option maxHeartbeats 4000000 in
theorem same_any (g : Nat) (v : Value) (p : List LoanP) (w : World) (hP : PoolM w g p) (hv : Lies 5 LoanP.f w v p) (hW : ∀ o ∈ p, o.Wf 100000) (hn : p.length ≤ 10) :
    Calls Try.prog 18 #[.pointer (some ⟨g, 0, none⟩), v] w fun e w' => e = .returned (.bool true) ∧ Below w.heap.size w w' := by
  obtain ⟨a, cap, rfl, _, _, _, _⟩ := id hv
  obtain ⟨n, en⟩ : ∃ n, p.length = n := ⟨_, rfl⟩
  rw [en] at hv hn ⊢
  have HN : Hid (p.length = n) := en
  have HP : Hid (PoolM w g p) := hP
  have HV : Hid (Lies 5 LoanP.f w (.slice a n cap) p) := hv
  have HW : Hid (∀ o ∈ p, o.Wf 100000) := hW
  have HF : Hid (SumFits LoanP.bal p) := SumFits.of 100000 (fun o ho => ⟨(hW o ho).b0, (hW o ho).b1⟩) (by omega) (by omega)
  have HS : Hid (∀ k, 0 ≤ sumBy LoanP.lost (p.take k) ∧ sumBy LoanP.lost (p.take k) ≤ 1000000) := fun k => by
    have h1 := sumBy_le LoanP.lost 100000 (p.take k) (fun x hx => by have := hW x (List.mem_of_mem_take hx); exact ⟨this.l0, this.l1⟩)
    have h2 : (p.take k).length ≤ 10 := by rw [List.length_take]; omega
    omega
  have hm : n ≤ 9223372036854775807 := by omega
  clear en hP hv hW
  go_enter Try.func18, Try.ntmps18
  go_upto_region 2 with (go_at_call 19; refine (loans_any g p _ HP.out (by have := HN.out; omega)).mono ?_; rintro e w2 ⟨vd, rfl, od, d2⟩)
  rw [HN.out] at od
  have LD : Hid (Lies 5 LoanP.f w2 vd p) := own_lies LoanP.len od HN.out
  obtain ⟨aD, capD, rfl⟩ : ∃ a c, vd = .slice a n c := by
    obtain ⟨a, c, e, _⟩ := LD.out
    rw [HN.out] at e
    exact ⟨a, c, e⟩
  have LV : Hid (Lies 5 LoanP.f w2 (.slice a n cap) p) := HV.out.below d2
  have MP : Hid (PoolM w2 g p) := HP.out.below d2
  have hd : Below w.heap.size w w2 := d2
  clear od HP HV d2
  go_wp2
  go_loopw [6, 18] (fun s i wr => ∃ k : Nat, k ≤ n ∧ i = .int .i64 k ∧ s = .int .i64 (sumBy LoanP.lost (p.take k)) ∧ Below w2.heap.size w2 wr) (fun _ i _ => n - (intOf i).toNat)
  case atStart => exact ⟨0, Nat.zero_le _, rfl, rfl, Below.refl _ _⟩
  case round =>
  obtain ⟨k, hk, rfl, rfl, hB⟩ := hrel
  by_cases hlt : k < n
  · obtain ⟨xb, xo, x, rfl, hx, _, x0, x1, x2, x3, x4⟩ := LV.out.loan k hlt
    obtain ⟨yb, yo, y, rfl, hy, _, y0, y1, y2, y3, y4⟩ := LD.out.loan k hlt
    rw [hx] at hy
    injection hy with hy
    subst hy
    replace x0 := cell_keep hB x0; replace x1 := cell_keep hB x1; replace x2 := cell_keep hB x2; replace x3 := cell_keep hB x3; replace x4 := cell_keep hB x4
    replace y0 := cell_keep hB y0; replace y1 := cell_keep hB y1; replace y2 := cell_keep hB y2; replace y3 := cell_keep hB y3; replace y4 := cell_keep hB y4
    have hs2 := HS.out (k + 1)
    have hs := HS.out k
    have hN := sumBy_next LoanP.lost p k x hx
    generalize sumBy LoanP.lost (p.take k) = S at hs hN
    rw [hN] at hs2
    have HX : Hid (sumBy LoanP.lost (p.take (k + 1)) = S + x.lost) := hN
    have k0 : (0 : Int) ≤ (k : Int) := by omega
    have k1 : (k : Int) < (n : Int) := by omega
    clear hN hx
    go_upto_region 8 with fail
    refine wp_letter (fun wx => Below w2.heap.size w2 wx ∧ ∃ Q, wr.heap.size = Q ∧ Blk wx Q 46 x.f ∧ wx.cell? ⟨yb, yo + k * 5, none⟩ = some (.int .i64 x.id) ∧ wx.cell? ⟨yb, yo + k * 5 + 1, none⟩ = some (.int .i64 x.bal) ∧ wx.cell? ⟨yb, yo + k * 5 + 2, none⟩ = some (.int .i64 x.lost) ∧ wx.cell? ⟨yb, yo + k * 5 + 3, none⟩ = some (.int .i64 x.late) ∧ wx.cell? ⟨yb, yo + k * 5 + 4, none⟩ = some (.bool x.over)) (by
      have ba : Below wr.heap.size wr (wr.alloc (.cells #[.int .i64 x.id, .int .i64 x.bal, .int .i64 x.lost, .int .i64 x.late, .bool x.over] 46)) := below_alloc (Below.refl _ _) _
      exact ⟨below_alloc hB _, _, rfl, Blk.fresh _ _ x.f, cell_keep ba y0, cell_keep ba y1, cell_keep ba y2, cell_keep ba y3, cell_keep ba y4⟩) ?_
    clear x0 x1 x2 x3 x4 y0 y1 y2 y3 y4 hB
    rintro X ⟨hB, Q, eQ, bQ, y0, y1, y2, y3, y4⟩
    rw [eQ]
    clear eQ
    have x0 := bQ.cell 0 _ rfl; have x1 := bQ.cell 1 _ rfl; have x2 := bQ.cell 2 _ rfl; have x3 := bQ.cell 3 _ rfl; have x4 := bQ.cell 4 _ rfl
    clear bQ
    go_quiet (fail)
    go_wp2
    go_roundw
    case rel => exact ⟨k + 1, by omega, by go_num, by rw [HX.out], below_draws hB _⟩
    case measure => simp [intOf]; omega
  · obtain rfl : k = n := by omega
    have htk : p.take k = p := by rw [← HN.out]; exact List.take_length
    rw [htk]
    obtain ⟨SL, eSL⟩ : ∃ S, sumBy LoanP.lost p = S := ⟨_, rfl⟩
    obtain ⟨SB, eSB⟩ : ∃ S, sumBy LoanP.bal p = S := ⟨_, rfl⟩
    rw [eSL]
    have E1 : Hid (sumBy LoanP.lost p = SL) := eSL
    have E2 : Hid (sumBy LoanP.bal p = SB) := eSB
    have MP2 : Hid (PoolM wr g p) := MP.out.below hB
    have LV2 : Hid (Lies 5 LoanP.f wr (.slice a k cap) p) := LV.out.below hB
    clear eSL eSB htk MP LV LD HS
    go_upto_region 12 with fail
    go_wp2_with (first
      | (go_at_call 9; refine (balance_any g p _ 100000 MP2.out HW.out (by decide) (by have := HN.out; omega)).mono ?_; rintro e w5 ⟨rfl, d5⟩; rw [E2.out]; have MP3 : Hid (PoolM w5 g p) := MP2.out.below d5; have LV3 : Hid (Lies 5 LoanP.f w5 (.slice a k cap) p) := LV2.out.below d5)
      | (go_at_call 31; refine (refBalance_any _ p _ LV3.out HF.out).mono ?_; rintro e w6 ⟨rfl, d6⟩; rw [E2.out]; have MP4 : Hid (PoolM w6 g p) := MP3.out.below d6)
      | (go_at_call 10; refine (lost_any g p _ 100000 MP4.out HW.out (by decide) (by have := HN.out; omega)).mono ?_; rintro e w7 ⟨rfl, d7⟩; rw [E1.out]))
    go_ret
    exact ⟨rfl, below_then hd (below_then hB (below_then d5 (below_then d6 d7)))⟩
end Go.Proofs.Ytoijgognbfifbaa
