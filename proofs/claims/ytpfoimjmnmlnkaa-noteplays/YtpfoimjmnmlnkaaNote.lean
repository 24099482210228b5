/-
  Package note: what its calls tell, and the walks of New, Balance, Pay, Write, Restore, Owe, Settle.
-/
import Derived.Test.YtpfoimjmnmlnkaaPurse
import Derived.Test.YtpfoimjmnmlnkaaNt
namespace Go.Proofs.Ytpfoimjmnmlnkaa
open Go.RowKit

/-- As much of c as there is. -/
def upTo (t c : Int) : Int := max (min t c) 0
/-- A note's numbers are such that no sum of them goes round. -/
structure Calm (og i q d : Int) : Prop where
  fit : Fit i q
  o0 : -1152921504606846976 ≤ og
  o1 : og ≤ 1152921504606846976
  d0 : -1152921504606846976 ≤ d
  d1 : d ≤ 1152921504606846976
/-- What is still to be paid. -/
def bal (og i q d : Int) : Int := og - (i - q) - d

theorem Calm.bal {og i q d : Int} (h : Calm og i q d) : -4611686018427387904 ≤ bal og i q d ∧ bal og i q d ≤ 4611686018427387904 := by
  have := h.fit.q0; have := h.fit.qi; have := h.fit.i1; have := h.o0; have := h.o1; have := h.d0; have := h.d1
  unfold Go.Proofs.Ytpfoimjmnmlnkaa.bal; omega

theorem upTo_any (t c : Int) (w : World) :
    Calls Try.prog 22 #[.int .i64 t, .int .i64 c] w fun e w' => e = .returned (.int .i64 (upTo t c)) ∧ w' = w := by
  obtain ⟨m, hm⟩ : ∃ m, (if c < t then c else t) = m := ⟨_, rfl⟩
  have hm3 : min t c = m := by rw [← hm]; split <;> omega
  obtain ⟨u, hu⟩ : ∃ u, upTo t c = u := ⟨_, rfl⟩
  have hm2 : (if m < 0 then 0 else m) = u := by rw [← hu]; unfold upTo; rw [hm3]; split <;> omega
  have hm4 : max m 0 = u := by rw [← hu]; unfold upTo; rw [hm3]
  rw [hu]
  clear hu
  go_enter Try.func22, Try.ntmps22
  go_wp2
  go_ret
  exact ⟨rfl, rfl⟩

theorem new_any (rk og rt : Int) (w : World) :
    Calls Try.prog 8 #[.agg #[.int .i64 rk, .int .i64 og, .int .i64 rt]] w fun e w' => e = .returned (noteV rk og rt 0 0 0 0) ∧ Below w.heap.size w w' := by
  go_enter Try.func8, Try.ntmps8
  go_wp2
  refine bodyPost_ret (v := noteV rk og rt 0 0 0 0) (by simp [results, Try.results8, go_sem, noteV]) rfl ⟨rfl, ?_⟩
  exact below_alloc (below_alloc (Below.refl _ _) _) _

set_option maxHeartbeats 1000000 in
theorem balance_any (rk og rt i q s d : Int) (h : Calm og i q d) (w : World) :
    Calls Try.prog 12 #[noteV rk og rt i q s d] w fun e w' => e = .returned (.int .i64 (bal og i q d)) ∧ Below w.heap.size w w' := by
  obtain ⟨⟨q0, qi, i1⟩, o0, o1, d0, d1⟩ := h
  unfold noteV bal
  go_enter Try.func12, Try.ntmps12
  go_upto_region 1 with fail
  refine wp_letter (fun wx => Below w.heap.size w wx ∧ Nt wx w.heap.size 0 rk og rt i q s d) ⟨below_alloc (Below.refl _ _) _, Nt.fresh _ _ _ _ _ _ _ _ _⟩ ?_
  rintro W ⟨hB, hN⟩
  have cW : ∀ wx, Below W.heap.size W wx → wx.cell? ⟨w.heap.size, 0, none⟩ = some (.int .i64 rk) ∧ wx.cell? ⟨w.heap.size, 1, none⟩ = some (.int .i64 og) ∧ wx.cell? ⟨w.heap.size, 2, none⟩ = some (.int .i64 rt) ∧ wx.cell? ⟨w.heap.size, 3, none⟩ = some (.int .i64 i) ∧ wx.cell? ⟨w.heap.size, 4, none⟩ = some (.int .i64 q) ∧ wx.cell? ⟨w.heap.size, 5, none⟩ = some (.int .i64 s) ∧ wx.cell? ⟨w.heap.size, 6, none⟩ = some (.int .i64 d) := fun wx bx => by
    have := hN.then bx
    exact ⟨this.c0, this.c1, this.c2, this.c3, this.c4, this.c5, this.c6⟩
  have e1 : IntKind.i64.wrap (og - (i - q)) = og - (i - q) := wrap_in _ (by omega) (by omega)
  have e2 : IntKind.i64.wrap (og - (i - q) - d) = og - (i - q) - d := wrap_in _ (by omega) (by omega)
  go_region_held3 (fun wx => Below W.heap.size W wx ∧ wx.cell? ⟨w.heap.size, 0, none⟩ = some (.int .i64 rk) ∧ wx.cell? ⟨w.heap.size, 1, none⟩ = some (.int .i64 og) ∧ wx.cell? ⟨w.heap.size, 2, none⟩ = some (.int .i64 rt) ∧ wx.cell? ⟨w.heap.size, 3, none⟩ = some (.int .i64 i) ∧ wx.cell? ⟨w.heap.size, 4, none⟩ = some (.int .i64 q) ∧ wx.cell? ⟨w.heap.size, 5, none⟩ = some (.int .i64 s) ∧ wx.cell? ⟨w.heap.size, 6, none⟩ = some (.int .i64 d)) (first | (with_reducible exact held (cW _) (Below.refl _ _).drew) | (go_split_ands; with_reducible first | exact held (cW _) (below_then (by assumption : Below W.heap.size W _) (by assumption)) | exact held (cW _) (by assumption)))
    (first
      | ((go_at_call 13; refine (has_any _ _ q0 qi i1 _).mono ?_; rintro e wr ⟨rfl, br⟩)))
  rename_i hH
  go_wp2
  go_ret
  exact ⟨rfl, below_then hB hH.1⟩

theorem upTo_bd (t c : Int) : 0 ≤ upTo t c ∧ (upTo t c ≤ t ∨ upTo t c = 0) ∧ (upTo t c ≤ c ∨ upTo t c = 0) := by unfold upTo; omega

set_option maxHeartbeats 1000000 in
theorem write_any (b o : Nat) (rk og rt i q s d c : Int) (w : World) (h : Calm og i q d) (hN : Nt w b o rk og rt i q s d) :
    Calls Try.prog 10 #[.pointer (some ⟨b, o, none⟩), .int .i64 c] w fun e w' => e = .returned (.int .i64 (upTo (bal og i q d) c)) ∧ Chn b o w w' ∧ Nt w' b o rk og rt i q s (d + upTo (bal og i q d) c) := by
  have hlt := hN.lt
  obtain ⟨B, hB⟩ : ∃ B, bal og i q d = B := ⟨_, rfl⟩
  obtain ⟨U, hU⟩ : ∃ U, upTo B c = U := ⟨_, rfl⟩
  have HB : Hid (bal og i q d = B) := hB
  have HU : Hid (upTo B c = U) := hU
  have HC : Hid (Calm og i q d) := h
  have b0 := h.bal
  have u0 := upTo_bd B c
  rw [hB] at b0
  rw [hU] at u0
  rw [hB, hU]
  have e1 : d + U ≤ 9223372036854775807 := by have := h.d1; omega
  have e0 : -9223372036854775808 ≤ d + U := by have := h.d0; omega
  clear hB hU h b0 u0
  obtain ⟨x0, x1, x2, x3, x4, x5, x6, xf⟩ := id hN; have xf5 := xf 5 (by omega); have xf6 := xf 6 (by omega); clear xf
  go_enter Try.func10, Try.ntmps10
  go_wp2_with (first | (go_at_call 12; refine (balance_any _ _ _ _ _ _ _ HC.out _).mono ?_; rintro e w1 ⟨rfl, b1⟩; replace hN := hN.then b1; rw [HB.out]; obtain ⟨x0, x1, x2, x3, x4, x5, x6, xf⟩ := id hN; have xf5 := xf 5 (by omega); have xf6 := xf 6 (by omega); clear xf) | (go_at_call 22; refine (upTo_any _ _ _).mono ?_; rintro e wq ⟨rfl, hq⟩; have hq := hq.symm; subst hq; rw [HU.out]))
  go_ret
  exact ⟨rfl, (Chn.of_below hlt b1).trans (Chn.set 6 (by omega) _), hN.setD _⟩

set_option maxHeartbeats 1000000 in
theorem pay_any (b o : Nat) (rk og rt i q s d c : Int) (w : World) (h : Calm og i q d) (hN : Nt w b o rk og rt i q s d) :
    Calls Try.prog 9 #[.pointer (some ⟨b, o, none⟩), .int .i64 c] w fun e w' => e = .returned (.int .i64 (if mayPut i (upTo (bal og i q d) c) then upTo (bal og i q d) c else 0)) ∧ Chn b o w w' ∧
      Nt w' b o rk og rt (i + (if mayPut i (upTo (bal og i q d) c) then upTo (bal og i q d) c else 0)) q s d := by
  have hlt := hN.lt
  obtain ⟨B, hB⟩ : ∃ B, bal og i q d = B := ⟨_, rfl⟩
  obtain ⟨U, hU⟩ : ∃ U, upTo B c = U := ⟨_, rfl⟩
  have HB : Hid (bal og i q d = B) := hB
  have HU : Hid (upTo B c = U) := hU
  have HC : Hid (Calm og i q d) := h
  rw [hB, hU]
  clear hB hU
  have i0 := h.fit.i0
  have i1 := h.fit.i1
  clear h
  obtain ⟨x0, x1, x2, x3, x4, x5, x6, xf⟩ := id hN; have xf5 := xf 5 (by omega); have xf6 := xf 6 (by omega); clear xf
  cases hm : mayPut i U
  · have HM : Hid (mayPut i U = false) := hm
    clear hm
    go_enter Try.func9, Try.ntmps9
    go_wp2_with (first
      | (go_at_call 12; refine (balance_any _ _ _ _ _ _ _ HC.out _).mono ?_; rintro e w1 ⟨rfl, b1⟩; replace hN := hN.then b1; rw [HB.out]; obtain ⟨x0, x1, x2, x3, x4, x5, x6, xf⟩ := id hN; have xf5 := xf 5 (by omega); have xf6 := xf 6 (by omega); clear xf)
      | (go_at_call 22; refine (upTo_any _ _ _).mono ?_; rintro e wq ⟨rfl, hq⟩; have hq := hq.symm; subst hq; rw [HU.out])
      | (go_at_call 21; refine (put_no b (o + 3) i q U _ i0 i1 hN.pur HM.out).mono ?_; rintro e w2 ⟨rfl, b2⟩))
    go_ret
    refine ⟨rfl, Chn.of_below hlt (below_then b1 b2), ?_⟩
    simpa using hN.then b2
  · have HM : Hid (mayPut i U = true) := hm
    clear hm
    go_enter Try.func9, Try.ntmps9
    go_wp2_with (first
      | (go_at_call 12; refine (balance_any _ _ _ _ _ _ _ HC.out _).mono ?_; rintro e w1 ⟨rfl, b1⟩; replace hN := hN.then b1; rw [HB.out]; obtain ⟨x0, x1, x2, x3, x4, x5, x6, xf⟩ := id hN; have xf5 := xf 5 (by omega); have xf6 := xf 6 (by omega); clear xf)
      | (go_at_call 22; refine (upTo_any _ _ _).mono ?_; rintro e wq ⟨rfl, hq⟩; have hq := hq.symm; subst hq; rw [HU.out])
      | (go_at_call 21; refine (put_yes b (o + 3) i q U _ i0 i1 hN.pur HM.out).mono ?_; rintro e w2 ⟨rfl, c2, p2⟩))
    go_ret
    refine ⟨rfl, (Chn.of_below hlt b1).trans (.of_chg c2), ?_⟩
    simpa using hN.purse c2 p2

/-- takeOff: the cell at hand is as much less. -/
theorem takeOff_any (b k : Nat) (n c : Int) (w : World) (n0 : -9223372036854775808 ≤ n) (n1 : n ≤ 9223372036854775807) (hc : w.cell? ⟨b, k, none⟩ = some (.int .i64 n)) (hf : w.frozen? ⟨b, k, none⟩ = false) :
    Calls Try.prog 23 #[.pointer (some ⟨b, k, none⟩), .int .i64 c] w fun e w' => e = .returned (.int .i64 (upTo n c)) ∧ w' = w.setCell ⟨b, k, none⟩ (.int .i64 (n - upTo n c)) := by
  obtain ⟨U, hU⟩ : ∃ U, upTo n c = U := ⟨_, rfl⟩
  have HU : Hid (upTo n c = U) := hU
  have u0 := upTo_bd n c
  rw [hU] at u0
  rw [hU]
  have e1 : n - U ≤ 9223372036854775807 := by omega
  have e0 : -9223372036854775808 ≤ n - U := by omega
  clear hU u0
  go_enter Try.func23, Try.ntmps23
  go_wp2_with (go_at_call 22; refine (upTo_any _ _ _).mono ?_; rintro e wq ⟨rfl, hq⟩; have hq := hq.symm; subst hq; rw [HU.out])
  go_ret
  exact ⟨rfl, rfl⟩

theorem restore_any (b o : Nat) (rk og rt i q s d c : Int) (w : World) (n0 : -9223372036854775808 ≤ d) (n1 : d ≤ 9223372036854775807) (hN : Nt w b o rk og rt i q s d) :
    Calls Try.prog 11 #[.pointer (some ⟨b, o, none⟩), .int .i64 c] w fun e w' => e = .returned (.int .i64 (upTo d c)) ∧ Chn b o w w' ∧ Nt w' b o rk og rt i q s (d - upTo d c) := by
  have HN : Hid (Nt w b o rk og rt i q s d) := hN
  obtain ⟨x0, x1, x2, x3, x4, x5, x6, xf⟩ := id hN; have xf5 := xf 5 (by omega); have xf6 := xf 6 (by omega); clear xf
  clear hN
  go_enter Try.func11, Try.ntmps11
  go_wp2_with (go_at_call 23; refine (takeOff_any b (o + 6) d c _ n0 n1 x6 xf6).mono ?_; rintro e w1 ⟨rfl, rfl⟩)
  go_ret
  exact ⟨rfl, Chn.set 6 (by omega) _, HN.out.setD _⟩

theorem settle_any (b o : Nat) (rk og rt i q s d c : Int) (w : World) (n0 : -9223372036854775808 ≤ s) (n1 : s ≤ 9223372036854775807) (hN : Nt w b o rk og rt i q s d) :
    Calls Try.prog 17 #[.pointer (some ⟨b, o, none⟩), .int .i64 c] w fun e w' => e = .returned (.int .i64 (upTo s c)) ∧ Chn b o w w' ∧ Nt w' b o rk og rt i q (s - upTo s c) d := by
  have HN : Hid (Nt w b o rk og rt i q s d) := hN
  obtain ⟨x0, x1, x2, x3, x4, x5, x6, xf⟩ := id hN; have xf5 := xf 5 (by omega); have xf6 := xf 6 (by omega); clear xf
  clear hN
  go_enter Try.func17, Try.ntmps17
  go_wp2_with (go_at_call 23; refine (takeOff_any b (o + 5) s c _ n0 n1 x5 xf5).mono ?_; rintro e w1 ⟨rfl, rfl⟩)
  go_ret
  exact ⟨rfl, Chn.set 5 (by omega) _, HN.out.setS _⟩

/-- May c more be owed? -/
def mayOwe (s c : Int) : Bool := decide (0 ≤ c) && decide (s ≤ 1152921504606846976 - c)

theorem owe_any (b o : Nat) (rk og rt i q s d c : Int) (w : World) (s0 : -9223372036854775808 ≤ s) (c1 : c ≤ 9223372036854775807) (hN : Nt w b o rk og rt i q s d) :
    Calls Try.prog 16 #[.pointer (some ⟨b, o, none⟩), .int .i64 c] w fun e w' => e = .returned (.bool (mayOwe s c)) ∧ Chn b o w w' ∧ Nt w' b o rk og rt i q (if mayOwe s c then s + c else s) d := by
  have HN : Hid (Nt w b o rk og rt i q s d) := hN
  have hlt := hN.lt
  obtain ⟨x0, x1, x2, x3, x4, x5, x6, xf⟩ := id hN; have xf5 := xf 5 (by omega); have xf6 := xf 6 (by omega); clear xf
  clear hN
  by_cases h0 : 0 ≤ c
  · by_cases h1 : s ≤ 1152921504606846976 - c
    · have HM : Hid (mayOwe s c = true) := by show _ = _; simp [mayOwe]; omega
      have z : mayOwe s c = true := HM.out
      rw [z]
      clear z
      go_enter Try.func16, Try.ntmps16
      go_wp2
      go_ret
      exact ⟨rfl, Chn.set 5 (by omega) _, HN.out.setS _⟩
    · have z : mayOwe s c = false := by simp [mayOwe]; omega
      rw [z]
      clear z
      go_enter Try.func16, Try.ntmps16
      go_wp2
      go_ret
      exact ⟨rfl, .of_below hlt (Below.refl _ _), HN.out⟩
  · have z : mayOwe s c = false := by simp [mayOwe]; omega
    rw [z]
    clear z
    go_enter Try.func16, Try.ntmps16
    go_wp2
    go_ret
    exact ⟨rfl, .of_below hlt (Below.refl _ _), HN.out⟩
end Go.Proofs.Ytpfoimjmnmlnkaa
