/-
  The walk of DealSteps.
-/
import Derived.Test.YtamdmicdieeolaaDealArg
import Derived.Test.YtamdmicdieeolaaStepsP
import Derived.Test.YtamdmicdieeolaaDealRunsWalk
namespace Go.Proofs.Ytamdmicdieeolaa
open Go.RowKit

theorem DealOwn.pick {B : Nat} {w : World} {l n a b c : Value} {d : DealT} (h : DealOwn B w l n a b c d) (ok : d.ok = true) (q : Nat) (hq : q < 3) : ∃ xs : List StT, stepsP xs = true ∧ w.ownsRow B 37 2 ((#[a, b, c] : Array Value).getD q undef) xs.length (xs.flatMap StT.f) := by
  obtain ⟨h0, h1, h2⟩ := DealT.ok_modes ok
  rcases (show q = 0 ∨ q = 1 ∨ q = 2 by omega) with rfl | rfl | rfl
  · exact ⟨_, h0, h.s0⟩
  · exact ⟨_, h1, h.s1⟩
  · exact ⟨_, h2, h.s2⟩
theorem field_steps (yr mo ba fe re ta ad cu t0 t1 t2 t3 t4 : Int) (l n a b c : Value) (wx : World) : (Instr.field 29 (.agg #[.int .i64 yr, .int .i64 mo, .int .i64 ba, l, n, .int .i64 fe, .int .i64 re, .int .i64 ta, .int .i64 ad, .int .i64 cu, .int .i64 t0, .int .i64 t1, .int .i64 t2, .int .i64 t3, .int .i64 t4, a, b, c]) 11).run Try.prog wx = .ok (.agg #[a, b, c]) wx := by kernel_rfl
set_option maxHeartbeats 8000000 in
theorem dealSteps_any (v0 : Value) (m cut what by0 : Int) (w : World) (h : DealKIn w v0) :
    Calls Try.prog 6 #[v0, .int .i64 m, .int .i64 cut, .int .i64 what, .int .i64 by0] w fun e w' => e = .returned (.bool true) ∧ Below w.heap.size w w' := by
  have hk := h
  obtain ⟨t, vl, vn, vr, vt, va, vb, vc, _, _, _, _, _, _, _, rfl, _⟩ := h
  obtain ⟨yr, mo, ba, fe, re, ta, ad, cu, t0, t1, t2, t3, t4⟩ := t
  unfold NumT.k at hk ⊢
  simp only at hk ⊢
  obtain ⟨i0, hi, hz0, hz1, hz2⟩ := info_parts Try.info_st
  have SK : (Try.prog.info? 43).map (·.size) = some (20 : Nat) := by kernel_rfl
  have P1 : Hid (∀ (wx : World) (R : Ending → World → Prop), Below w.heap.size w wx → (∀ l n a b c d w', d.ok = true → DealOwn wx.heap.size w' l n a b c d → Below wx.heap.size wx w' → R (.returned (.agg #[.int .i64 d.t.yr, .int .i64 d.t.mo, .int .i64 d.t.ba, l, n, .int .i64 d.t.fe, .int .i64 d.t.re, .int .i64 d.t.ta, .int .i64 d.t.ad, .int .i64 d.t.cu, .int .i64 d.t.t0, .int .i64 d.t.t1, .int .i64 d.t.t2, .int .i64 d.t.t3, .int .i64 d.t.t4, a, b, c])) w') → Calls Try.prog 12 #[.agg #[.int .i64 yr, .int .i64 mo, .int .i64 ba, .int .i64 fe, .int .i64 re, .int .i64 ta, .int .i64 ad, .int .i64 cu, .int .i64 t0, .int .i64 t1, .int .i64 t2, .int .i64 t3, .int .i64 t4, vl, vn, vr, vt, va, vb, vc]] wx R) := fun wx R bx k => (dealK_any _ wx (hk.below bx)).mono (by rintro e w' ⟨l, n, a, b, c, d, rfl, ok, o, dd⟩; exact k l n a b c d w' ok o dd)
  obtain ⟨M, hM⟩ : ∃ A, 0 + m % (2 - 0 + 1) = A := ⟨_, rfl⟩
  have bM := win_in m 0 2 (by omega)
  rw [hM] at bM
  obtain ⟨q, rfl⟩ : ∃ q : Nat, M = q := ⟨M.toNat, by omega⟩
  have hq : q < 3 := by omega
  obtain ⟨N, hN⟩ : ∃ A, 0 + what % (4 - 0 + 1) = A := ⟨_, rfl⟩
  have bN := win_in what 0 4 (by omega)
  rw [hN] at bN
  obtain ⟨B0, hB0⟩ : ∃ A, 0 + by0 % (99 - 0 + 1) = A := ⟨_, rfl⟩
  have bB := win_in by0 0 99 (by omega)
  rw [hB0] at bB
  have WM : Hid (∀ (wx : World) (R : Ending → World → Prop), True → R (.returned (.int .i64 q)) wx → Calls Try.prog 15 #[.int .i64 m, .int .i64 0, .int .i64 2] wx R) := fun wx R _ h => (win_at (by omega) (by omega) (by omega) (by omega) hM wx).mono (by rintro e w' ⟨rfl, rfl⟩; exact h)
  have WN : Hid (∀ (wx : World) (R : Ending → World → Prop), True → R (.returned (.int .i64 N)) wx → Calls Try.prog 15 #[.int .i64 what, .int .i64 0, .int .i64 4] wx R) := fun wx R _ h => (win_at (by omega) (by omega) (by omega) (by omega) hN wx).mono (by rintro e w' ⟨rfl, rfl⟩; exact h)
  have WB : Hid (∀ (wx : World) (R : Ending → World → Prop), True → R (.returned (.int .i64 B0)) wx → Calls Try.prog 15 #[.int .i64 by0, .int .i64 0, .int .i64 99] wx R) := fun wx R _ h => (win_at (by omega) (by omega) (by omega) (by omega) hB0 wx).mono (by rintro e w' ⟨rfl, rfl⟩; exact h)
  clear hM hN hB0 hk bM
  go_enter Try.func6, Try.ntmps6
  go_upto_region 1 with fail
  refine wp_letter (fun wx => ∃ K, w.heap.size = K ∧ Blk wx K 43 (NumT.k ⟨yr, mo, ba, fe, re, ta, ad, cu, t0, t1, t2, t3, t4⟩ vl vn vr vt va vb vc) ∧ Below w.heap.size w wx) ⟨_, rfl, Blk.fresh _ _ (NumT.k ⟨yr, mo, ba, fe, re, ta, ad, cu, t0, t1, t2, t3, t4⟩ vl vn vr vt va vb vc), below_alloc (Below.refl _ _) _⟩ ?_
  rintro W ⟨K, eK, bK, hW⟩
  rw [eK]
  clear eK
  go_upto_region 2 with (first
    | (refine wpList_load_row rfl 43 (.tmp 5) rfl K rfl 43 #[.int .i64 yr, .int .i64 mo, .int .i64 ba, .int .i64 fe, .int .i64 re, .int .i64 ta, .int .i64 ad, .int .i64 cu, .int .i64 t0, .int .i64 t1, .int .i64 t2, .int .i64 t3, .int .i64 t4, vl, vn, vr, vt, va, vb, vc] (0, 0) _ bK Try.underlying43 rfl SK ?_)
    | (with_reducible refine P1.out _ _ hW (fun l n a b c d w1 ok O1 d1 => ?_); obtain ⟨lv, hlv⟩ : ∃ v, (#[a, b, c] : Array Value).getD q undef = v := ⟨_, rfl⟩; have hidx := index_three a b c lv q hq hlv; have hfld := field_steps d.t.yr d.t.mo d.t.ba d.t.fe d.t.re d.t.ta d.t.ad d.t.cu d.t.t0 d.t.t1 d.t.t2 d.t.t3 d.t.t4 l n a b c)
    | (with_reducible refine WM.out _ _ trivial ?_))
  obtain ⟨xs, hS, o1⟩ := O1.pick ok q hq
  rw [hlv] at o1
  have hS' := (stepsP_iff xs).1 hS
  obtain ⟨g, cap, rfl, lg, lg2, lcap⟩ := own_form o1 hS'.1.1
  obtain ⟨n1, hn1⟩ : ∃ n, xs.length = n := ⟨_, rfl⟩
  have hb1 := hS'.1
  rw [hn1] at o1 lcap hb1 ⊢
  have hX := below_then hW d1
  clear hidx hfld hlv hS' WM P1 O1 ok d1 hW bK SK
  obtain ⟨C, hC⟩ : ∃ A, 0 + cut % ((n1 : Int) - 1 - 0 + 1) = A := ⟨_, rfl⟩
  have bC := win_in cut 0 ((n1 : Int) - 1) (by omega)
  rw [hC] at bC
  obtain ⟨c1, rfl⟩ : ∃ q : Nat, C = q := ⟨C.toNat, by omega⟩
  have hc1 : c1 < n1 := by omega
  have WC : Hid (∀ (wx : World) (R : Ending → World → Prop), True → R (.returned (.int .i64 c1)) wx → Calls Try.prog 15 #[.int .i64 cut, .int .i64 0, .int .i64 ((n1 : Int) - 1)] wx R) := fun wx R _ h => (win_at (by omega) (by omega) (by omega) (by omega) hC wx).mono (by rintro e w' ⟨rfl, rfl⟩; exact h)
  clear hC bC
  go_upto_region 3 with (with_reducible refine WC.out _ _ trivial ?_)
  have lyX := own_lies StT.len o1 (by rw [hn1])
  have hlv := lyX.len
  obtain ⟨Wa, hWa⟩ : ∃ W, W = w1 := ⟨_, rfl⟩
  subst hWa
  have LX : Hid (Lies 2 StT.f Wa (.slice (some ⟨g, 0, none⟩) n1 cap) xs) := lyX
  have hne : ¬ cap = c1 := by omega
  have i0' : (0 : Int) ≤ (c1 : Int) := by omega
  have i1' : (c1 : Int) ≤ (n1 : Int) := by omega
  have i2' : (n1 : Int) ≤ (cap : Int) := by omega
  have i3' : (c1 : Int) ≤ (cap : Int) := by omega
  have hcap := hlv.2.2
  unfold maxLen at hcap
  have OW1 : Hid ((Wa.drew.alloc (.cells #[] 37)).ownsRow Wa.heap.size 37 2 (.slice (some ⟨Wa.heap.size, 0, none⟩) 0 0) 0 []) := own_empty (Blk.fresh Wa.drew 37 [])
  have BA : Below Wa.heap.size Wa (Wa.drew.alloc (.cells #[] 37)) := below_alloc (Below.refl _ _).drew _
  have SR1 : Hid (Src (Wa.drew.alloc (.cells #[] 37)) (.slice (some ⟨g, c1 * 2, none⟩) (n1 - c1) (cap - c1)) (n1 - c1) ((xs.drop c1).flatMap StT.f)) := by
    have := ((lyX.below BA).drop c1 (by omega) (some ⟨g, 0 + c1 * 2, none⟩) (by rw [if_neg hne])).src StT.len (by omega)
    rw [List.length_drop, hn1, Nat.zero_add] at this
    exact this
  have SR2 : Hid (∀ wx, Below Wa.heap.size Wa wx → Src wx (.slice (some ⟨g, 0, none⟩) c1 cap) c1 ((xs.take c1).flatMap StT.f)) := fun wx b => by
    have := ((lyX.below b).take c1 (by omega)).src StT.len (by omega)
    rw [List.length_take, hn1, Nat.min_eq_left (by omega)] at this
    exact this
  have FL1 : Hid (((xs.drop c1).flatMap StT.f).length = (n1 - c1) * 2) := by show _ = _; rw [flat_length StT.len, List.length_drop, hn1]
  have FL2 : Hid (((xs.take c1).flatMap StT.f).length = c1 * 2) := by show _ = _; rw [flat_length StT.len, List.length_take, hn1, Nat.min_eq_left (by omega)]
  clear lyX hlv
  go_region_held3 (fun wx => Below Wa.heap.size Wa wx) (first | (with_reducible assumption) | (exact (Below.refl _ _).drew) | (exact BA)) (first
    | ((refine step_append_src (by rfl) (.tmp 27) (.tmp 30) 26 (by rfl) Wa.heap.size 37 i0 (.agg #[.int .i64 0, .int .i64 0]) 2 16 Try.underlying26 hi hz0 hz1 hz2 rfl (by decide) (.slice (some ⟨Wa.heap.size, 0, none⟩) 0 0) 0 [] (by rfl) OW1.out (.slice (some ⟨g, c1 * 2, none⟩) (n1 - c1) (cap - c1)) (n1 - c1) ((xs.drop c1).flatMap StT.f) (by rfl) SR1.out FL1.out (flat_one StT.one) (by unfold maxLen; omega) (by omega) BA.size ?_; intro v2 w2 ow gr _; have B2 : Below Wa.heap.size Wa w2 := below_grown BA gr (fun k h => (OW1.out.lt k h).1); have O2 : Hid (w2.ownsRow Wa.heap.size 37 2 v2 (0 + (n1 - c1)) ([] ++ (xs.drop c1).flatMap StT.f)) := ow; clear ow gr))
    | ((refine step_append_src (by rfl) (.tmp 31) (.tmp 34) 26 (by rfl) Wa.heap.size 37 i0 (.agg #[.int .i64 0, .int .i64 0]) 2 16 Try.underlying26 hi hz0 hz1 hz2 rfl (by decide) v2 (0 + (n1 - c1)) ([] ++ (xs.drop c1).flatMap StT.f) (by rfl) O2.out (.slice (some ⟨g, 0, none⟩) c1 cap) c1 ((xs.take c1).flatMap StT.f) (by rfl) (SR2.out _ B2) FL2.out (flat_one StT.one) (by unfold maxLen; omega) (by omega) B2.size ?_; intro v3 w3 ow gr _; have B3 : Below Wa.heap.size Wa w3 := below_grown B2 gr (fun k h => (O2.out.lt k h).1); have O3 : Hid (w3.ownsRow Wa.heap.size 37 2 v3 (0 + (n1 - c1) + c1) ([] ++ (xs.drop c1).flatMap StT.f ++ (xs.take c1).flatMap StT.f)) := ow; clear ow gr)))
  obtain ⟨ys, hys⟩ : ∃ ys, xs.drop c1 ++ xs.take c1 = ys := ⟨_, rfl⟩
  have hyl : ys.length = n1 := by rw [← hys, List.length_append, List.length_drop, List.length_take]; omega
  have hyS : stepsP ys = true := by rw [← hys]; exact stepsP_turn hS c1
  have o3 := own_cast (n' := n1) (ys := ys.flatMap StT.f) O3.out (by omega) (by rw [← hys, List.flatMap_append, List.nil_append])
  obtain ⟨g3, cap3, rfl, lg3, lg3', lc3⟩ := own_form o3 (by omega)
  have hB : Below w3.heap.size w3 w3 := Below.refl _ _
  have hXw := hX.size
  have S1 : Hid (∀ (wx : World) (R : Ending → World → Prop), Below w3.heap.size w3 wx → (∀ w', Below wx.heap.size wx w' → R (.returned (.bool true)) w') → Calls Try.prog 11 #[.slice (some ⟨g, 0, none⟩) n1 cap] wx R) := fun wx R k h => (steps_any _ xs wx (LX.out.below (below_then B3 k))).mono (by rintro e w' ⟨rfl, d⟩; rw [hS]; exact h w' d)
  have S2 : Hid (∀ (wx : World) (R : Ending → World → Prop), Below w3.heap.size w3 wx → (∀ w', Below wx.heap.size wx w' → R (.returned (.bool true)) w') → Calls Try.prog 11 #[.slice (some ⟨g3, 0, none⟩) n1 cap3] wx R) := fun wx R k h => (steps_any _ ys wx ((own_lies StT.len o3 hyl).below k)).mono (by rintro e w' ⟨rfl, d⟩; rw [hyS]; exact h w' d)
  clear OW1 SR1 SR2 FL1 FL2 LX O2 O3 hne
  go_upto_region 13 with (first
    | (with_reducible refine S1.out _ _ hB (fun w4 bn => ?_); replace hB := below_then hB bn)
    | (with_reducible refine S2.out _ _ hB (fun w5 bn => ?_); replace hB := below_then hB bn)
    | (with_reducible refine WB.out _ _ trivial ?_)
    | (with_reducible refine WN.out _ _ trivial ?_))
  refine wp_letter (fun wx => wx.ownsRow Wa.heap.size 37 2 (.slice (some ⟨g3, 0, none⟩) n1 cap3) n1 (ys.flatMap StT.f) ∧ Below w.heap.size w wx) ⟨own_below o3 hB, below_then hX (below_then B3 hB)⟩ ?_
  rintro Wb ⟨ob, hWb⟩
  clear S1 S2 WB WN hB o3 B2 B3 BA o1 hX
  obtain ⟨y0, hy0⟩ : ∃ y, ys[0]? = some y := ⟨_, List.getElem?_eq_getElem (by omega)⟩
  have hy1 : 0 < ys.length := by omega
  have hym : y0 ∈ ys := List.mem_iff_getElem?.2 ⟨0, hy0⟩
  obtain ⟨k0, r0⟩ := y0
  have z0 : Wb.cell? ⟨g3, 0, none⟩ = some (.int .i64 k0) := own_cell (i := 0) (j := 0) (x := ⟨k0, r0⟩) StT.len ob hyl hy0 rfl
  have z1 : Wb.cell? ⟨g3, 1, none⟩ = some (.int .i64 r0) := own_cell (i := 0) (j := 1) (x := ⟨k0, r0⟩) StT.len ob hyl hy0 rfl
  have f0 := ob.frozenAt 0
  have f1 := ob.frozenAt 1
  have ln1 : (0 : Int) < (n1 : Int) := by omega
  have sWb := (ob.lt g3 rfl).2
  rcases (show N = 0 ∨ N = 1 ∨ N = 2 ∨ N = 3 ∨ N = 4 by omega) with rfl | rfl | rfl | rfl | rfl
  · have HF : Hid (stepsP (ys ++ [⟨k0, r0⟩]) = false) := stepsP_twice hym
    go_wp2_with (first
      | (refine wpl_append (.tmp 63) (.tmp 67) 26 rfl (fun wx => ∃ E, Wb.heap.size = E ∧ wx.ownsRow Wa.heap.size 37 2 (.slice (some ⟨g3, 0, none⟩) n1 cap3) n1 (ys.flatMap StT.f) ∧ Blk wx E 37 (StT.f ⟨k0, r0⟩) ∧ Below w.heap.size w wx ∧ Wa.heap.size ≤ wx.heap.size) ⟨_, rfl, ob.alloc _, Blk.fresh _ _ (StT.f ⟨k0, r0⟩), below_alloc hWb _, by simp; omega⟩ ?_
         rintro w6 ⟨E, eE, oE, bE, dE, sE⟩
         rw [eE]
         refine wpList_append_src rfl (.tmp 63) (.tmp 67) 26 rfl Wa.heap.size 37 i0 (.agg #[.int .i64 0, .int .i64 0]) 2 16 Try.underlying26 hi hz0 hz1 hz2 rfl (by decide) (.slice (some ⟨g3, 0, none⟩) n1 cap3) n1 (ys.flatMap StT.f) rfl oE (.slice (some ⟨E, 0, none⟩) 1 1) 1 (StT.f ⟨k0, r0⟩) rfl (blk_src bE 1) rfl (StT.one _) (by unfold maxLen; omega) (by omega) sE ?_
         intro v7 w7 ow gr _
         have LZ : Hid (Lies 2 StT.f w7 v7 (ys ++ [⟨k0, r0⟩])) := own_lies StT.len (own_more _ ow) (by rw [List.length_append, hyl]; rfl)
         have BZ : Hid (Below w.heap.size w w7) := below_grown dE gr (fun k h => by have := (oE.lt k h).1; omega)
         obtain ⟨pa, pb, pc, rfl⟩ := own_slice ow
         clear ow gr oE bE dE sE)
      | (go_at_call 11; refine (steps_any _ _ _ LZ.out).mono ?_; rintro e wz ⟨rfl, dz⟩; rw [HF.out])
      | (go_at_call 3; refine (dealRuns_any _).mono ?_; rintro e wz2 ⟨rfl, dz2⟩))
    go_ret
    exact ⟨rfl, below_then (below_then BZ.out dz) dz2⟩
  · have T1 := own_turned (j := 0) (u := .int .i64 (1 - (1 + B0))) (x := ⟨k0, r0⟩) (x' := ⟨1 - (1 + B0), r0⟩) StT.len ob hy0 rfl (by decide)
    have T2 := own_turned (j := 1) (u := .int .i64 (0)) (x := ⟨1 - (1 + B0), r0⟩) (x' := ⟨1 - (1 + B0), 0⟩) StT.len T1 (List.getElem?_set_self hy1) rfl (by decide)
    rw [List.set_set] at T2
    have hmem : (⟨1 - (1 + B0), 0⟩ : StT) ∈ ys.set 0 ⟨1 - (1 + B0), 0⟩ := List.mem_iff_getElem?.2 ⟨0, List.getElem?_set_self hy1⟩
    have HF : Hid (stepsP (ys.set 0 ⟨1 - (1 + B0), 0⟩) = false) := stepsP_bad hmem (bad_kind (Or.inl (by omega)))
    have LZ : Hid (Lies 2 StT.f ((Wb.setCell ⟨g3, 0 * 2 + 0, none⟩ (.int .i64 (1 - (1 + B0)))).setCell ⟨g3, 0 * 2 + 1, none⟩ (.int .i64 (0))) (.slice (some ⟨g3, 0, none⟩) n1 cap3) (ys.set 0 ⟨1 - (1 + B0), 0⟩)) := own_lies StT.len T2 (by rw [List.length_set]; exact hyl)
    have BZ : Hid (Below w.heap.size w ((Wb.setCell ⟨g3, 0 * 2 + 0, none⟩ (.int .i64 (1 - (1 + B0)))).setCell ⟨g3, 0 * 2 + 1, none⟩ (.int .i64 (0)))) := (hWb.setCell (show w.heap.size ≤ g3 by omega) _).setCell (show w.heap.size ≤ g3 by omega) _
    clear T1 T2 hmem
    go_wp2_with (first
      | (go_at_call 11; refine (steps_any _ _ _ LZ.out).mono ?_; rintro e wz ⟨rfl, dz⟩; rw [HF.out])
      | (go_at_call 3; refine (dealRuns_any _).mono ?_; rintro e wz2 ⟨rfl, dz2⟩))
    go_ret
    exact ⟨rfl, below_then (below_then BZ.out dz) dz2⟩
  · have T1 := own_turned (j := 0) (u := .int .i64 (3)) (x := ⟨k0, r0⟩) (x' := ⟨3, r0⟩) StT.len ob hy0 rfl (by decide)
    have T2 := own_turned (j := 1) (u := .int .i64 (7 + (1 + B0))) (x := ⟨3, r0⟩) (x' := ⟨3, 7 + (1 + B0)⟩) StT.len T1 (List.getElem?_set_self hy1) rfl (by decide)
    rw [List.set_set] at T2
    have hmem : (⟨3, 7 + (1 + B0)⟩ : StT) ∈ ys.set 0 ⟨3, 7 + (1 + B0)⟩ := List.mem_iff_getElem?.2 ⟨0, List.getElem?_set_self hy1⟩
    have HF : Hid (stepsP (ys.set 0 ⟨3, 7 + (1 + B0)⟩) = false) := stepsP_bad hmem (bad_rank (by omega))
    have LZ : Hid (Lies 2 StT.f ((Wb.setCell ⟨g3, 0 * 2 + 0, none⟩ (.int .i64 (3))).setCell ⟨g3, 0 * 2 + 1, none⟩ (.int .i64 (7 + (1 + B0)))) (.slice (some ⟨g3, 0, none⟩) n1 cap3) (ys.set 0 ⟨3, 7 + (1 + B0)⟩)) := own_lies StT.len T2 (by rw [List.length_set]; exact hyl)
    have BZ : Hid (Below w.heap.size w ((Wb.setCell ⟨g3, 0 * 2 + 0, none⟩ (.int .i64 (3))).setCell ⟨g3, 0 * 2 + 1, none⟩ (.int .i64 (7 + (1 + B0))))) := (hWb.setCell (show w.heap.size ≤ g3 by omega) _).setCell (show w.heap.size ≤ g3 by omega) _
    clear T1 T2 hmem
    go_wp2_with (first
      | (go_at_call 11; refine (steps_any _ _ _ LZ.out).mono ?_; rintro e wz ⟨rfl, dz⟩; rw [HF.out])
      | (go_at_call 3; refine (dealRuns_any _).mono ?_; rintro e wz2 ⟨rfl, dz2⟩))
    go_ret
    exact ⟨rfl, below_then (below_then BZ.out dz) dz2⟩
  · have T1 := own_turned (j := 0) (u := .int .i64 (1)) (x := ⟨k0, r0⟩) (x' := ⟨1, r0⟩) StT.len ob hy0 rfl (by decide)
    have T2 := own_turned (j := 1) (u := .int .i64 (1 + B0)) (x := ⟨1, r0⟩) (x' := ⟨1, 1 + B0⟩) StT.len T1 (List.getElem?_set_self hy1) rfl (by decide)
    rw [List.set_set] at T2
    have hmem : (⟨1, 1 + B0⟩ : StT) ∈ ys.set 0 ⟨1, 1 + B0⟩ := List.mem_iff_getElem?.2 ⟨0, List.getElem?_set_self hy1⟩
    have HF : Hid (stepsP (ys.set 0 ⟨1, 1 + B0⟩) = false) := stepsP_bad hmem (bad_fee (by omega))
    have LZ : Hid (Lies 2 StT.f ((Wb.setCell ⟨g3, 0 * 2 + 0, none⟩ (.int .i64 (1))).setCell ⟨g3, 0 * 2 + 1, none⟩ (.int .i64 (1 + B0))) (.slice (some ⟨g3, 0, none⟩) n1 cap3) (ys.set 0 ⟨1, 1 + B0⟩)) := own_lies StT.len T2 (by rw [List.length_set]; exact hyl)
    have BZ : Hid (Below w.heap.size w ((Wb.setCell ⟨g3, 0 * 2 + 0, none⟩ (.int .i64 (1))).setCell ⟨g3, 0 * 2 + 1, none⟩ (.int .i64 (1 + B0)))) := (hWb.setCell (show w.heap.size ≤ g3 by omega) _).setCell (show w.heap.size ≤ g3 by omega) _
    clear T1 T2 hmem
    go_wp2_with (first
      | (go_at_call 11; refine (steps_any _ _ _ LZ.out).mono ?_; rintro e wz ⟨rfl, dz⟩; rw [HF.out])
      | (go_at_call 3; refine (dealRuns_any _).mono ?_; rintro e wz2 ⟨rfl, dz2⟩))
    go_ret
    exact ⟨rfl, below_then (below_then BZ.out dz) dz2⟩
  · go_upto_region 9 with fail
    clear z0 z1 f0 f1 ob hy0 hym
    obtain ⟨Wc, hWc⟩ : ∃ W, W = Wb := ⟨_, rfl⟩
    subst hWc
    go_wp2
    go_loopw [13, 15] (fun v i wr => ∃ (j : Nat) (zs : List StT), j ≤ 16 + (1 + B0).toNat ∧ i = .int .i64 j ∧ zs.length = j ∧ wr.ownsRow Wc.heap.size 37 2 v j (zs.flatMap StT.f) ∧ Below w.heap.size w wr ∧ Wc.heap.size ≤ wr.heap.size) (fun _ i _ => 16 + (1 + B0).toNat - (intOf i).toNat)
    case atStart => exact ⟨0, [], by omega, rfl, rfl, World.ownsRow_nil _ _ _ _, hWb, Nat.le_refl _⟩
    case round =>
    obtain ⟨j, zs, hj, rfl, hz, oz, dz0, sz0⟩ := hrel
    have hwc := hWb.size
    by_cases hlt : (j : Int) < 16 + (1 + B0)
    · have OZ : Hid (wr.ownsRow Wc.heap.size 37 2 u13 j (zs.flatMap StT.f)) := oz
      obtain ⟨R, hR⟩ : ∃ R, bits .and .i64 (j : Int) 7 = R := ⟨_, rfl⟩
      clear oz
      go_wp2_with (refine wpl_append (.tmp 55) (.tmp 59) 26 rfl (fun wx => ∃ E, wr.heap.size = E ∧ wx.ownsRow Wc.heap.size 37 2 u13 j (zs.flatMap StT.f) ∧ Blk wx E 37 (StT.f ⟨3, R⟩) ∧ Below w.heap.size w wx ∧ Wc.heap.size ≤ wx.heap.size) ⟨_, rfl, OZ.out.alloc _, Blk.fresh _ _ (StT.f ⟨3, R⟩), below_alloc dz0 _, by simp; omega⟩ ?_
                   rintro w6 ⟨E, eE, oE, bE, dE, sE⟩
                   rw [eE]
                   refine wpList_append_src rfl (.tmp 55) (.tmp 59) 26 rfl Wc.heap.size 37 i0 (.agg #[.int .i64 0, .int .i64 0]) 2 16 Try.underlying26 hi hz0 hz1 hz2 rfl (by decide) u13 j (zs.flatMap StT.f) rfl oE (.slice (some ⟨E, 0, none⟩) 1 1) 1 (StT.f ⟨3, R⟩) rfl (blk_src bE 1) rfl (StT.one _) (by unfold maxLen; omega) (by omega) sE ?_
                   intro v7 w7 ow gr _
                   have OW := own_more _ ow
                   have BW : Below w.heap.size w w7 := below_grown dE gr (fun k h => by have := (oE.lt k h).1; omega)
                   have SW : Wc.heap.size ≤ w7.heap.size := Nat.le_trans sE gr.size)
      go_roundw
      case rel => exact ⟨j + 1, zs ++ [⟨3, R⟩], by omega, by go_num, by rw [List.length_append, hz]; rfl, OW, BW, SW⟩
      case measure => simp [intOf]; omega
    · have HF : Hid (stepsP zs = false) := stepsP_long (by omega)
      have LZ : Hid (Lies 2 StT.f wr u13 zs) := own_lies StT.len oz hz
      obtain ⟨pa, pb, pc, rfl⟩ := own_slice oz
      clear oz
      go_wp2_with (first
        | (go_at_call 11; refine (steps_any _ _ _ LZ.out).mono ?_; rintro e wz ⟨rfl, dz⟩; rw [HF.out])
        | (go_at_call 3; refine (dealRuns_any _).mono ?_; rintro e wz2 ⟨rfl, dz2⟩))
      go_ret
      exact ⟨rfl, below_then (below_then dz0 dz) dz2⟩
/-- The law, of any arguments. -/
theorem dealSteps_law (v0 v1 v2 v3 v4 : Value) (w : World) (w0 : Arg w (.struct (.cons 1 (.int .i64) (.cons 1 (.int .i64) (.cons 1 (.int .i64) (.cons 1 (.int .i64) (.cons 1 (.int .i64) (.cons 1 (.int .i64) (.cons 1 (.int .i64) (.cons 1 (.int .i64) (.cons 5 (.arr (.cons 1 (.int .i64) (.cons 1 (.int .i64) (.cons 1 (.int .i64) (.cons 1 (.int .i64) (.cons 1 (.int .i64) .nil)))))) (.cons 1 (.slice 1 (.int .i64)) (.cons 1 (.slice 1 (.int .i64)) (.cons 1 (.slice 1 (.int .i64)) (.cons 1 (.slice 1 (.int .i64)) (.cons 3 (.arr (.cons 1 (.slice 1 (.int .i64)) (.cons 1 (.slice 1 (.int .i64)) (.cons 1 (.slice 1 (.int .i64)) .nil)))) .nil))))))))))))))) v0) (w1 : Arg w (.int .i64) v1) (w2 : Arg w (.int .i64) v2) (w3 : Arg w (.int .i64) v3) (w4 : Arg w (.int .i64) v4) :
    Calls Try.prog 6 #[v0, v1, v2, v3, v4] w fun e w' => e = .returned (.bool true) ∧ Below w.heap.size w w' := by
  obtain ⟨n1, rfl, _⟩ := arg_int w1
  obtain ⟨n2, rfl, _⟩ := arg_int w2
  obtain ⟨n3, rfl, _⟩ := arg_int w3
  obtain ⟨n4, rfl, _⟩ := arg_int w4
  exact dealSteps_any v0 n1 n2 n3 n4 w (arg_dealk w0)
end Go.Proofs.Ytamdmicdieeolaa
