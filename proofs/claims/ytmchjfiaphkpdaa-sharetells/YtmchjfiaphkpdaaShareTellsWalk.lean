/-
  The walk of ShareTells.
-/
import Derived.Test.YtmchjfiaphkpdaaShareRunsWalk
import Derived.Test.YtmchjfiaphkpdaaRefPro2
import Derived.Test.YtmchjfiaphkpdaaRowSrc
import Derived.DataShut
namespace Go.Proofs.Ytmchjfiaphkpdaa
open Go.RowKit

set_option maxRecDepth 1000000 in
set_option maxHeartbeats 2000000 in
theorem shareTells_any (n : Int) (a : Option Addr) (len cap : Nat) (zs : List Int) (w : World) (w0 : (Lit.int .i64 n).wf = true) (hrow : Row .i64 w a len cap zs) :
    Calls Try.prog 4 #[.int .i64 n, .slice a len cap] w fun e w' => e = .returned (.bool true) ∧ Below w.heap.size w w' := by
  obtain ⟨i0, hi, hz0, hz1, hz2⟩ := info_parts Try.info_ints
  obtain ⟨hlen, hm, hzl, _⟩ := hrow.cells
  have hn1 : n ≤ 9223372036854775807 := by
    have := ((Lit.wf_int_iff _ _).1 w0).2
    rw [IntKind.max_i64] at this
    exact this
  obtain ⟨N, hN⟩ : ∃ N, max n 0 = N := ⟨_, rfl⟩
  have N0 : 0 ≤ N := by omega
  have N1 : N ≤ 9223372036854775807 := by omega
  have eN : (if n < 0 then 0 else n) = N := by split <;> omega
  have eM : max n 0 = N := hN
  have HNn : Hid (max n 0 = N) := hN
  obtain ⟨m, hmin⟩ : ∃ m, min len 12 = m := ⟨_, rfl⟩
  have hml : m ≤ len := by omega
  have hm12 : m ≤ 12 := by omega
  have hmn : min (len : Int) 12 = (m : Int) := by omega
  have b0 : Below w.heap.size w (w.alloc (.cells #[] 3)) := (Below.refl _ _).alloc (Nat.le_refl _) _
  have HSrc : Hid (Src (w.alloc (.cells #[] 3)) (.slice a m cap) m ((zs.take m).map (Value.int .i64))) := (hrow.src m hml).below b0
  have HOwn : Hid ((w.alloc (.cells #[] 3)).ownsRow w.heap.size 3 1 (.slice (some ⟨w.heap.size, 0, none⟩) 0 0) 0 []) := World.ownsRow_lit (base := w.heap.size) (size := 1) w #[] 0 (Nat.le_refl _) (by unfold maxLen; omega) rfl
  have HB0 : Hid (Below w.heap.size w (w.alloc (.cells #[] 3))) := b0
  have HLen : Hid ((zs.take m).length = m) := by show _ = _; rw [List.length_take]; omega
  unfold maxLen at hm
  clear hrow b0 hmin w0 hN
  generalize zs.take m = L at *
  go_enter Try.func4, Try.ntmps4
  go_upto_region 1 with fail
  go_cut [5] (fun v wx => wx.ownsRow w.heap.size 3 1 v m (L.map (Value.int .i64)) ∧ Below w.heap.size w wx)
  case first =>
    cases a with
    | none =>
      go_wp2_with (at_builtin; refine wpList_append_src rfl (.tmp 8) (.tmp 13) 23 rfl w.heap.size 3 i0 (.int .i64 0) 1 8 Try.underlying23 hi hz0 hz1 hz2 rfl (by decide) _ _ _ rfl HOwn.out _ _ (L.map (Value.int .i64)) rfl HSrc.out (by rw [List.length_map, HLen.out, Nat.mul_one]) (ints_oneCell' _) (by unfold maxLen; omega) (by omega) (by simp) ?_; intro v1 w1 o1 g1 _)
      go_meet
      case rel => exact ⟨by have := o1; rw [Nat.zero_add, List.nil_append] at this; exact this, below_grown HB0.out g1 (fun k h => (HOwn.out.lt k h).1)⟩
    | some x =>
      go_wp2_with (at_builtin; refine wpList_append_src rfl (.tmp 8) (.tmp 13) 23 rfl w.heap.size 3 i0 (.int .i64 0) 1 8 Try.underlying23 hi hz0 hz1 hz2 rfl (by decide) _ _ _ rfl HOwn.out _ _ (L.map (Value.int .i64)) rfl HSrc.out (by rw [List.length_map, HLen.out, Nat.mul_one]) (ints_oneCell' _) (by unfold maxLen; omega) (by omega) (by simp) ?_; intro v1 w1 o1 g1 _)
      go_meet
      case rel => exact ⟨by have := o1; rw [Nat.zero_add, List.nil_append] at this; exact this, below_grown HB0.out g1 (fun k h => (HOwn.out.lt k h).1)⟩
  case rest =>
  obtain ⟨hown, hbel⟩ := hcut
  have hreads := own_reads hown
  obtain ⟨a1, c1, e1, _, _, hcase⟩ := id hreads
  rw [HLen.out] at e1
  subst e1
  have HRd : Hid (Reads wc (.slice a1 m c1) L) := hreads
  have HBc : Hid (Below w.heap.size w wc) := hbel
  clear hown hreads hcase hbel HB0 HOwn HSrc hi hz0 hz1 hz2
  have hro := roomy_any (.slice a1 m c1) L 7 wc HRd.out (by rw [HLen.out]; omega)
  rw [HLen.out] at hro
  obtain ⟨g, hg⟩ : ∃ g, wc.heap.size = g := ⟨_, rfl⟩
  rw [hg] at hro
  go_upto_region 4 with (go_at_call 13; refine hro.mono ?_; rintro e w2 ⟨rfl, o2, b2⟩)
  have r2 := own_reads o2
  have HF2 : Hid (Reads w2 (.slice (some ⟨g, 0, none⟩) (m + 80) (m + 80)) (L ++ List.replicate 80 (7 : Int))) := r2
  have t2 := r2.take m (by omega)
  have et : (L ++ List.replicate 80 (7 : Int)).take m = L := by
    have := HLen.out
    rw [← this]
    exact List.take_left
  rw [et] at t2
  have HT2 : Hid (Reads w2 (.slice (some ⟨g, 0, none⟩) m (m + 80)) L) := t2
  rw [← hg] at b2
  have HD2 : Hid (Reads w2 (.slice a1 m c1) L) := HRd.out.below b2
  have HB2 : Hid (Below w.heap.size w w2) := below_then HBc.out b2
  clear r2 t2 et o2 b2 hro hg HRd HBc
  obtain ⟨X, hX⟩ : ∃ X, inOrd N L = X := ⟨_, rfl⟩
  obtain ⟨Y, hY⟩ : ∃ Y, proL n L = Y := ⟨_, rfl⟩
  have HI : Hid (∀ W, Below w2.heap.size w2 W → Calls Try.prog 10 #[.int .i64 n, .slice (some ⟨g, 0, none⟩) m (m + 80)] W fun e w' => ∃ q, W.heap.size ≤ q ∧ e = .returned (.slice (some ⟨q, 0, none⟩) m m) ∧ Reads w' (.slice (some ⟨q, 0, none⟩) m m) X ∧ Below W.heap.size W w') := fun W hW => by
    have := inOrder_b n _ L W (HT2.out.below hW) (by rw [HLen.out]; omega) hn1
    rw [HLen.out, HNn.out, hX] at this
    exact this
  have HIr : Hid (∀ W, Below w2.heap.size w2 W → Calls Try.prog 14 #[.int .i64 N, .slice a1 m c1] W fun e w' => ∃ q, W.heap.size ≤ q ∧ e = .returned (.slice (some ⟨q, 0, none⟩) m m) ∧ Reads w' (.slice (some ⟨q, 0, none⟩) m m) X ∧ Below W.heap.size W w') := fun W hW => by
    have := refInOrder_any N _ L W (HD2.out.below hW) (by rw [HLen.out]; omega) N0 N1
    rw [HLen.out, hX] at this
    exact this.mono fun _ _ ⟨he, ho, hw⟩ => ⟨_, Nat.le_refl _, he, by have := own_reads ho; exact this, hw⟩
  have HPp : Hid (∀ W, Below w2.heap.size w2 W → Calls Try.prog 11 #[.int .i64 n, .slice (some ⟨g, 0, none⟩) m (m + 80)] W fun e w' => ∃ q, W.heap.size ≤ q ∧ e = .returned (.slice (some ⟨q, 0, none⟩) m m) ∧ Reads w' (.slice (some ⟨q, 0, none⟩) m m) Y ∧ Below W.heap.size W w') := fun W hW => by
    have := pro_b n _ L W (HT2.out.below hW) (by rw [HLen.out]; omega)
    rw [HLen.out, hY] at this
    exact this
  have HPr : Hid (∀ W, Below w2.heap.size w2 W → Calls Try.prog 15 #[.int .i64 n, .slice a1 m c1] W fun e w' => ∃ q, W.heap.size ≤ q ∧ e = .returned (.slice (some ⟨q, 0, none⟩) m m) ∧ Reads w' (.slice (some ⟨q, 0, none⟩) m m) Y ∧ Below W.heap.size W w') := fun W hW => by
    have := refPro_any n _ L W (HD2.out.below hW) (by rw [HLen.out]; omega)
    rw [HLen.out, hY] at this
    exact this.mono fun _ _ ⟨he, ho, hw⟩ => ⟨_, Nat.le_refl _, he, by have := own_reads ho; exact this, hw⟩
  have HIn : Hid (∀ W, Below w2.heap.size w2 W → Calls Try.prog 16 #[.slice (some ⟨g, 0, none⟩) (m + 80) (m + 80), .slice a1 m c1, .int .i64 7] W fun e w' => e = .returned (.bool true) ∧ Below W.heap.size W w') := fun W hW =>
    (intact_any g m (m + 80) _ L 7 W HLen.out (by omega) (by omega) (HF2.out.below hW) (HD2.out.below hW)).mono fun _ _ ⟨he, q, hw⟩ => ⟨he, by rw [hw]; exact below_draws (Below.refl _ _) q⟩
  have hB := Below.refl w2.heap.size w2
  clear hX hY HT2 HD2 HF2 HLen HNn hlen hzl hm
  go_wp2_with (first
    | (go_at_call 10; refine (HI.out _ hB).mono ?_; rintro e wn ⟨q, _, rfl, rx, bn⟩; replace hB := below_then hB bn; clear bn)
    | (go_at_call 14; refine (HIr.out _ hB).mono ?_; rintro e wn ⟨q', _, rfl, ry, bn⟩; replace rx := rx.below bn; replace hB := below_then hB bn; clear bn)
    | (go_at_call 11; refine (HPp.out _ hB).mono ?_; rintro e wn ⟨q, _, rfl, rx, bn⟩; replace hB := below_then hB bn; clear bn)
    | (go_at_call 15; refine (HPr.out _ hB).mono ?_; rintro e wn ⟨q', _, rfl, ry, bn⟩; replace rx := rx.below bn; replace hB := below_then hB bn; clear bn)
    | (go_at_call 9; refine (same_b _ _ _ _ rx ry).mono ?_; rintro e wn ⟨rfl, bn⟩; clear rx ry; replace hB := below_then hB bn; clear bn)
    | (go_at_call 16; refine (HIn.out _ hB).mono ?_; rintro e wn ⟨rfl, bn⟩; replace hB := below_then hB bn; clear bn)
    | (go_at_call 3; refine (shareRuns_any _).mono ?_; rintro e wn ⟨rfl, bn⟩; replace hB := below_then hB bn; clear bn))
  go_ret
  exact ⟨rfl, below_then HB2.out hB⟩
end Go.Proofs.Ytmchjfiaphkpdaa
