/-
  The walk of NoteTotal.
-/
import Derived.Test.YtpfoimjmnmlnkaaNoteTot
import Derived.Test.YtpfoimjmnmlnkaaBook
import Derived.Test.YtpfoimjmnmlnkaaRowTerms
namespace Go.Proofs.Ytpfoimjmnmlnkaa
open Go.RowKit

theorem Try.info_note : (Try.prog.info? 27).map (fun i => (i.zero, i.size, i.bytes)) = some (some (.agg #[.int .i64 0, .int .i64 0, .int .i64 0, .int .i64 0, .int .i64 0, .int .i64 0, .int .i64 0]), 7, 56) := by kernel_rfl

/-- The k-th note of the law. -/
structure NoteT.Fine (x : NoteT) (k : Nat) : Prop where
  q : x.q = 0
  s : x.s = k
  i0 : 0 ≤ x.i
  d0 : 0 ≤ x.d
  og : x.i + x.d ≤ x.og
  og1 : x.og ≤ 1099511627776
theorem NoteT.Fine.calm {x : NoteT} {k : Nat} (h : x.Fine k) : Calm x.og x.i x.q x.d := by
  obtain ⟨h1, h2, h3, h4, h5, h6⟩ := h
  exact ⟨⟨by omega, by omega, by omega⟩, by omega, by omega, by omega, by omega⟩
theorem NoteT.Fine.bal {x : NoteT} {k : Nat} (h : x.Fine k) : 0 ≤ x.bal ∧ x.bal ≤ 1099511627776 := by
  obtain ⟨h1, h2, h3, h4, h5, h6⟩ := h
  unfold NoteT.bal Go.Proofs.Ytpfoimjmnmlnkaa.bal
  omega
theorem src_none {w : World} : Src w (.slice none 0 0) 0 [] := ⟨none, 0, rfl, fun _ => ⟨rfl, rfl⟩, fun a h => by simp at h⟩
/-- What the law knows of the notes so far. -/
structure TotInv (w wr : World) (v : Value) (k : Nat) (B D : Int) (xs : List NoteT) : Prop where
  len : xs.length = k
  own : wr.ownsRow w.heap.size 27 7 v k (xs.flatMap NoteT.f)
  fine : ∀ (j : Nat) (x : NoteT), xs[j]? = some x → x.Fine j
  b : sumBy NoteT.bal xs = B
  d : sumBy NoteT.d xs = D
  s : sumBy NoteT.s xs = ((k * (k - 1) / 2 : Nat) : Int)
  below : Below w.heap.size w wr

theorem TotInv.mem {w wr : World} {v : Value} {k : Nat} {B D : Int} {xs : List NoteT} (h : TotInv w wr v k B D xs) {x : NoteT} (hx : x ∈ xs) : ∃ j, j < k ∧ x.Fine j := by
  obtain ⟨j, hj, rfl⟩ := List.getElem_of_mem hx
  exact ⟨j, by rw [← h.len]; exact hj, h.fine j _ (List.getElem?_eq_getElem hj)⟩
theorem TotInv.bd {w wr : World} {v : Value} {k : Nat} {B D : Int} {xs : List NoteT} (h : TotInv w wr v k B D xs) (hk : k ≤ 8) : 0 ≤ B ∧ B ≤ 8796093022208 ∧ 0 ≤ D ∧ D ≤ 8796093022208 := by
  have h1 := sumBy_le NoteT.bal 1099511627776 xs (fun x hx => by obtain ⟨j, _, f⟩ := h.mem hx; exact f.bal)
  have h2 := sumBy_le NoteT.d 1099511627776 xs (fun x hx => by obtain ⟨j, _, f⟩ := h.mem hx; have := f.d0; have := f.og; have := f.i0; have := f.og1; omega)
  rw [h.b, h.len] at h1
  rw [h.d, h.len] at h2
  omega
theorem TotInv.more {w wr w1 : World} {v v' : Value} {k : Nat} {B D B' D' : Int} {xs : List NoteT} (h : TotInv w wr v k B D xs) (x : NoteT) (hx : x.Fine k) (ho : w1.ownsRow w.heap.size 27 7 v' (k + 1) (xs.flatMap NoteT.f ++ x.f)) (hb : Below w.heap.size w w1) (hk : k < 8)
    (eB : B + x.bal = B') (eD : D + x.d = D') : TotInv w w1 v' (k + 1) B' D' (xs ++ [x]) := by
  refine ⟨by simp [h.len], own_more x ho, fun j y hy => ?_, ?_, ?_, ?_, hb⟩
  · rcases Nat.lt_or_ge j xs.length with hj | hj
    · rw [List.getElem?_append_left hj] at hy
      exact h.fine j y hy
    · rw [List.getElem?_append_right hj] at hy
      have : j - xs.length = 0 := by
        rcases Nat.eq_zero_or_pos (j - xs.length) with z | z
        · exact z
        · rw [List.getElem?_eq_none (by simp; omega)] at hy; simp at hy
      rw [this] at hy
      simp at hy
      subst hy
      have e : j = k := by rw [← h.len]; omega
      subst e
      exact hx
  · rw [sumBy_append, h.b, ← eB]; simp [sumBy]
  · rw [sumBy_append, h.d, ← eD]; simp [sumBy]
  · rw [sumBy_append, h.s]
    have : sumBy NoteT.s [x] = k := by simp [sumBy, hx.s]
    rw [this]
    match k, hk with
    | 0, _ => rfl
    | 1, _ => rfl
    | 2, _ => rfl
    | 3, _ => rfl
    | 4, _ => rfl
    | 5, _ => rfl
    | 6, _ => rfl
    | 7, _ => rfl
theorem owe_so {b o : Nat} {rk og rt i q s d c s' : Int} {ok : Bool} {w : World} (hN : Nt w b o rk og rt i q s d) (s0 : -9223372036854775808 ≤ s) (c1 : c ≤ 9223372036854775807) (e1 : mayOwe s c = ok) (e2 : (if ok then s + c else s) = s') :
    Calls Try.prog 16 #[.pointer (some ⟨b, o, none⟩), .int .i64 c] w fun e w' => e = .returned (.bool ok) ∧ Chn b o w w' ∧ Nt w' b o rk og rt i q s' d := by
  subst e1 e2
  exact owe_any b o rk og rt i q s d c w s0 c1 hN

set_option maxRecDepth 1000000 in
set_option maxHeartbeats 40000000 in
theorem noteTotal_any (a0 : Option Addr) (len0 cap0 : Nat) (a1 : Option Addr) (len1 cap1 : Nat) (z1 : List Int) (a2 : Option Addr) (len2 cap2 : Nat) (z2 : List Int) (a3 : Int) (w : World) (w0 : RowT w a0 len0) (w1 : Row .i64 w a1 len1 cap1 z1) (w2 : Row .i64 w a2 len2 cap2 z2) (_w3 : (Lit.int .i64 a3).wf = true) :
    Calls Try.prog 6 #[.slice a0 len0 cap0, .slice a1 len1 cap1, .slice a2 len2 cap2, .int .i64 a3] w fun e w' => e = .returned (.bool true) ∧ Below w.heap.size w w' := by
  obtain ⟨i0, hi, hz0, hz1, hz2⟩ := info_parts Try.info_note
  obtain ⟨hm, HC'⟩ := w0
  have HC : Hid (∀ i, i < len0 → ∃ b off x y z, a0 = some ⟨b, off, none⟩ ∧ w.cell? ⟨b, off + i * 3, none⟩ = some (.int .i64 x) ∧ w.cell? ⟨b, off + i * 3 + 1, none⟩ = some (.int .i64 y) ∧ w.cell? ⟨b, off + i * 3 + 2, none⟩ = some (.int .i64 z)) := HC'
  clear HC' _w3
  obtain ⟨p1, p2, p3, HP'⟩ := w1.cells
  obtain ⟨q1, q2, q3, HQ'⟩ := w2.cells
  have HP : Hid (∀ i, i < len1 → ∃ b off, a1 = some ⟨b, off, none⟩ ∧ w.cell? ⟨b, off + i, none⟩ = some (.int .i64 (z1.getD i 0))) := HP'
  have HQ : Hid (∀ i, i < len2 → ∃ b off, a2 = some ⟨b, off, none⟩ ∧ w.cell? ⟨b, off + i, none⟩ = some (.int .i64 (z2.getD i 0))) := HQ'
  clear HP' HQ' w1 w2
  unfold maxLen at hm p2 q2
  go_enter Try.func6, Try.ntmps6
  go_upto_block 0 with fail
  go_cut [9, 10, 11] (fun v b d wx => ∃ (k : Nat) (B D : Int) (xs : List NoteT), k ≤ 8 ∧ b = .int .i64 B ∧ d = .int .i64 D ∧ TotInv w wx v k B D xs)
  case first =>
    go_wp2_with fail
    go_loopw [9, 10, 11, 12] (fun v b d i wr => ∃ (k : Nat) (B D : Int) (xs : List NoteT), k ≤ 8 ∧ i = .int .i64 k ∧ b = .int .i64 B ∧ d = .int .i64 D ∧ TotInv w wr v k B D xs) (fun _ _ _ i _ => 8 - (intOf i).toNat)
    case atStart => exact ⟨0, 0, 0, [], by omega, rfl, rfl, rfl, ⟨rfl, World.ownsRow_nil _ _ _ _, by simp, rfl, rfl, rfl, Below.refl _ _⟩⟩
    case round =>
    obtain ⟨k, B, D, xs, hk, rfl, rfl, rfl, hI⟩ := hrel
    have HI : Hid (TotInv w wr u9 k B D xs) := hI
    clear hI
    by_cases g1 : k < len0
    · by_cases g2 : k < 8
      · obtain ⟨b, off, X, Y, Z, rfl, _, hc1, _⟩ := HC.out k g1
        have hc := cell_keep HI.out.below hc1
        obtain ⟨G, hG⟩ : ∃ G, 0 + Y % (1099511627776 - 0 + 1) = G := ⟨_, rfl⟩
        have E1 : Hid (0 + Y % (1099511627776 - 0 + 1) = G) := hG
        have E2 := E1
        have E3 := E1
        have G0 : 0 ≤ G := by omega
        have G1 : G ≤ 1099511627776 := by omega
        clear hc1 hG
        go_upto_region 8 with (first
          | (go_at_call 15; refine (within_any _ _ _ (by omega) (by omega) (by omega) (by omega) _).mono ?_; rintro e wq ⟨rfl, hq⟩; have hq := hq.symm; subst hq; (first | rw [E1.out] | rw [E2.out] | rw [E3.out]))
          | (go_at_call 8; refine (new_any _ _ _ _).mono ?_; rintro e w1 ⟨rfl, b1⟩; unfold noteV))
        have hWr : Below wr.heap.size wr (w1.alloc (.cells #[.int .i64 0, .int .i64 G, .int .i64 0, .int .i64 0, .int .i64 0, .int .i64 0, .int .i64 0] 27)) := below_alloc (below_then (below_alloc (Below.refl _ wr) _) b1) _
        have hT : (w1.alloc (.cells #[.int .i64 0, .int .i64 G, .int .i64 0, .int .i64 0, .int .i64 0, .int .i64 0, .int .i64 0] 27)).cell? ⟨wr.heap.size, 1, none⟩ = some (.int .i64 G) := cell_keep (below_alloc b1 _) (by simp [go_sem])
        have hA : wr.heap.size < w1.heap.size := by have := b1.size; simp at this; omega
        refine wp_letter (fun wx => Below wr.heap.size wr wx ∧ ∃ A, w1.heap.size = A ∧ wr.heap.size < A ∧ Nt wx A 0 0 G 0 0 0 0 0 ∧ wx.cell? ⟨wr.heap.size, 1, none⟩ = some (.int .i64 G)) ⟨hWr, _, rfl, hA, Nt.fresh _ _ _ _ _ _ _ _ _, hT⟩ ?_
        clear hWr hT hA hc
        rintro V ⟨hV, A, eA, hA, hN, hT⟩
        rw [eA]
        clear eA b1
        have bd := HI.out.bd hk
        have F3 : Hid (mayOwe 0 (k : Int) = true) := by show _ = _; simp [mayOwe]; omega
        have F3' : Hid ((if true then 0 + (k : Int) else 0) = k) := by show _ = _; simp
        have H0 : Hid (Calm G 0 0 0) := ⟨⟨by omega, by omega, by omega⟩, by omega, by omega, by omega, by omega⟩
        by_cases g3 : k < len1
        · obtain ⟨pb, po, rfl, pc⟩ := HP.out k g3
          replace pc := cell_keep hV (cell_keep HI.out.below pc)
          generalize z1.getD k 0 = N at pc
          obtain ⟨P, hP⟩ : ∃ P, upTo (bal G 0 0 0) N = P := ⟨_, rfl⟩
          have P0 : 0 ≤ P := by have := upTo_bd (bal G 0 0 0) N; omega
          have P1 : P ≤ G := by have := upTo_bd (bal G 0 0 0) N; have : bal G 0 0 0 = G := by unfold bal; omega
                                omega
          have F1 : Hid ((if mayPut 0 (upTo (bal G 0 0 0) N) then upTo (bal G 0 0 0) N else 0) = P) := by show _ = _; rw [hP, if_pos (by simp [mayPut]; omega)]
          have F1' : Hid (0 + P = P) := by show _ = _; omega
          have H1 : Hid (Calm G P 0 0) := ⟨⟨by omega, by omega, by omega⟩, by omega, by omega, by omega, by omega⟩
          clear hP
          by_cases g4 : k < len2
          · obtain ⟨qb, qo, rfl, qc⟩ := HQ.out k g4; replace qc := cell_keep HI.out.below qc; (generalize z2.getD k 0 = N2 at qc); have QC : Hid (wr.cell? ⟨qb, qo + k, none⟩ = some (.int .i64 N2)) := qc; replace qc := cell_keep hV qc; obtain ⟨U, hU⟩ : ∃ U, upTo (bal G P 0 0) N2 = U := ⟨_, rfl⟩; have U0 : 0 ≤ U := (by have := upTo_bd (bal G P 0 0) N2; omega); have U1 : U ≤ G - P := (by have := upTo_bd (bal G P 0 0) N2; unfold bal at *; omega); have F2 : Hid (upTo (bal G P 0 0) N2 = U) := hU; have F2' : Hid (0 + U = U) := (by show _ = _; omega); clear hU
            go_upto_region 16 with (first | (go_at_call 9; refine (pay_to hN H0.out F1.out F1'.out).mono ?_; rintro e wn ⟨rfl, cn, pn⟩; replace hV := cn.below hV (by omega) hV.size; replace hN := pn; clear cn pn; (try replace qc := cell_keep hV QC.out)) | (go_at_call 10; refine (write_to hN H1.out F2.out F2'.out).mono ?_; rintro e wn ⟨rfl, cn, pn⟩; replace hV := cn.below hV (by omega) hV.size; replace hN := pn; clear cn pn; (try replace qc := cell_keep hV QC.out)) | (go_at_call 16; refine (owe_so (ok := true) (s' := (k : Int)) hN (by omega) (by omega) F3.out F3'.out).mono ?_; rintro e wn ⟨rfl, cn, pn⟩; replace hV := cn.below hV (by omega) hV.size; replace hN := pn; clear cn pn; (try replace qc := cell_keep hV QC.out)))
            have ho := own_below HI.out.own hV; (obtain ⟨y0, y1, y2, y3, y4, y5, y6, _⟩ := id hN); go_wp2_with (at_builtin; refine wpList_append_src rfl (.tmp 79) (.tmp 81) 41 rfl w.heap.size 27 i0 (.agg #[.int .i64 0, .int .i64 0, .int .i64 0, .int .i64 0, .int .i64 0, .int .i64 0, .int .i64 0]) 7 56 Try.underlying41 hi hz0 hz1 hz2 rfl (by decide) _ _ _ rfl (ho.alloc _) _ 1 (NoteT.f (⟨0, G, 0, P, 0, (k : Int), U⟩ : NoteT)) rfl (src_new _ _ 1 _) rfl (NoteT.one _) ?c1 ?c2 ?c3 ?_)
            case c1 => unfold maxLen; omega
            case c2 => omega
            case c3 => have h1 := hV.size; have h2 := HI.out.below.size; simp; omega
            (have hBw := below_then HI.out.below hV); (intro v' w2 hown' hgrow _); (have hb1 := below_append hBw ho hgrow); clear ho hgrow hV hN y0 y1 y2 y3 y4 y5 y6; go_wp2; go_roundw
            case rel => exact ⟨k + 1, _, _, _, by omega, by go_num, rfl, rfl, HI.out.more (⟨0, G, 0, P, 0, (k : Int), U⟩ : NoteT) ⟨rfl, rfl, by simp; try omega, by simp; try omega, by simp; try omega, by simp; try omega⟩ hown' hb1 g2 (by unfold NoteT.bal bal; simp; try omega) (by simp; try omega)⟩
            case measure => simp [intOf]; omega
          · go_upto_region 16 with (first | (go_at_call 9; refine (pay_to hN H0.out F1.out F1'.out).mono ?_; rintro e wn ⟨rfl, cn, pn⟩; replace hV := cn.below hV (by omega) hV.size; replace hN := pn; clear cn pn; (try replace qc := cell_keep hV QC.out)) | (go_at_call 16; refine (owe_so (ok := true) (s' := (k : Int)) hN (by omega) (by omega) F3.out F3'.out).mono ?_; rintro e wn ⟨rfl, cn, pn⟩; replace hV := cn.below hV (by omega) hV.size; replace hN := pn; clear cn pn; (try replace qc := cell_keep hV QC.out)))
            have ho := own_below HI.out.own hV; (obtain ⟨y0, y1, y2, y3, y4, y5, y6, _⟩ := id hN); go_wp2_with (at_builtin; refine wpList_append_src rfl (.tmp 79) (.tmp 81) 41 rfl w.heap.size 27 i0 (.agg #[.int .i64 0, .int .i64 0, .int .i64 0, .int .i64 0, .int .i64 0, .int .i64 0, .int .i64 0]) 7 56 Try.underlying41 hi hz0 hz1 hz2 rfl (by decide) _ _ _ rfl (ho.alloc _) _ 1 (NoteT.f (⟨0, G, 0, P, 0, (k : Int), 0⟩ : NoteT)) rfl (src_new _ _ 1 _) rfl (NoteT.one _) ?c1 ?c2 ?c3 ?_)
            case c1 => unfold maxLen; omega
            case c2 => omega
            case c3 => have h1 := hV.size; have h2 := HI.out.below.size; simp; omega
            (have hBw := below_then HI.out.below hV); (intro v' w2 hown' hgrow _); (have hb1 := below_append hBw ho hgrow); clear ho hgrow hV hN y0 y1 y2 y3 y4 y5 y6; go_wp2; go_roundw
            case rel => exact ⟨k + 1, _, _, _, by omega, by go_num, rfl, rfl, HI.out.more (⟨0, G, 0, P, 0, (k : Int), 0⟩ : NoteT) ⟨rfl, rfl, by simp; try omega, by simp; try omega, by simp; try omega, by simp; try omega⟩ hown' hb1 g2 (by unfold NoteT.bal bal; simp; try omega) (by simp; try omega)⟩
            case measure => simp [intOf]; omega
        · have H1 : Hid (Calm G 0 0 0) := H0
          by_cases g4 : k < len2
          · obtain ⟨qb, qo, rfl, qc⟩ := HQ.out k g4; replace qc := cell_keep HI.out.below qc; (generalize z2.getD k 0 = N2 at qc); have QC : Hid (wr.cell? ⟨qb, qo + k, none⟩ = some (.int .i64 N2)) := qc; replace qc := cell_keep hV qc; obtain ⟨U, hU⟩ : ∃ U, upTo (bal G 0 0 0) N2 = U := ⟨_, rfl⟩; have U0 : 0 ≤ U := (by have := upTo_bd (bal G 0 0 0) N2; omega); have U1 : U ≤ G - 0 := (by have := upTo_bd (bal G 0 0 0) N2; unfold bal at *; omega); have F2 : Hid (upTo (bal G 0 0 0) N2 = U) := hU; have F2' : Hid (0 + U = U) := (by show _ = _; omega); clear hU
            go_upto_region 16 with (first | (go_at_call 10; refine (write_to hN H1.out F2.out F2'.out).mono ?_; rintro e wn ⟨rfl, cn, pn⟩; replace hV := cn.below hV (by omega) hV.size; replace hN := pn; clear cn pn; (try replace qc := cell_keep hV QC.out)) | (go_at_call 16; refine (owe_so (ok := true) (s' := (k : Int)) hN (by omega) (by omega) F3.out F3'.out).mono ?_; rintro e wn ⟨rfl, cn, pn⟩; replace hV := cn.below hV (by omega) hV.size; replace hN := pn; clear cn pn; (try replace qc := cell_keep hV QC.out)))
            have ho := own_below HI.out.own hV; (obtain ⟨y0, y1, y2, y3, y4, y5, y6, _⟩ := id hN); go_wp2_with (at_builtin; refine wpList_append_src rfl (.tmp 79) (.tmp 81) 41 rfl w.heap.size 27 i0 (.agg #[.int .i64 0, .int .i64 0, .int .i64 0, .int .i64 0, .int .i64 0, .int .i64 0, .int .i64 0]) 7 56 Try.underlying41 hi hz0 hz1 hz2 rfl (by decide) _ _ _ rfl (ho.alloc _) _ 1 (NoteT.f (⟨0, G, 0, 0, 0, (k : Int), U⟩ : NoteT)) rfl (src_new _ _ 1 _) rfl (NoteT.one _) ?c1 ?c2 ?c3 ?_)
            case c1 => unfold maxLen; omega
            case c2 => omega
            case c3 => have h1 := hV.size; have h2 := HI.out.below.size; simp; omega
            (have hBw := below_then HI.out.below hV); (intro v' w2 hown' hgrow _); (have hb1 := below_append hBw ho hgrow); clear ho hgrow hV hN y0 y1 y2 y3 y4 y5 y6; go_wp2; go_roundw
            case rel => exact ⟨k + 1, _, _, _, by omega, by go_num, rfl, rfl, HI.out.more (⟨0, G, 0, 0, 0, (k : Int), U⟩ : NoteT) ⟨rfl, rfl, by simp; try omega, by simp; try omega, by simp; try omega, by simp; try omega⟩ hown' hb1 g2 (by unfold NoteT.bal bal; simp; try omega) (by simp; try omega)⟩
            case measure => simp [intOf]; omega
          · go_upto_region 16 with (first | (go_at_call 16; refine (owe_so (ok := true) (s' := (k : Int)) hN (by omega) (by omega) F3.out F3'.out).mono ?_; rintro e wn ⟨rfl, cn, pn⟩; replace hV := cn.below hV (by omega) hV.size; replace hN := pn; clear cn pn; (try replace qc := cell_keep hV QC.out)))
            have ho := own_below HI.out.own hV; (obtain ⟨y0, y1, y2, y3, y4, y5, y6, _⟩ := id hN); go_wp2_with (at_builtin; refine wpList_append_src rfl (.tmp 79) (.tmp 81) 41 rfl w.heap.size 27 i0 (.agg #[.int .i64 0, .int .i64 0, .int .i64 0, .int .i64 0, .int .i64 0, .int .i64 0, .int .i64 0]) 7 56 Try.underlying41 hi hz0 hz1 hz2 rfl (by decide) _ _ _ rfl (ho.alloc _) _ 1 (NoteT.f (⟨0, G, 0, 0, 0, (k : Int), 0⟩ : NoteT)) rfl (src_new _ _ 1 _) rfl (NoteT.one _) ?c1 ?c2 ?c3 ?_)
            case c1 => unfold maxLen; omega
            case c2 => omega
            case c3 => have h1 := hV.size; have h2 := HI.out.below.size; simp; omega
            (have hBw := below_then HI.out.below hV); (intro v' w2 hown' hgrow _); (have hb1 := below_append hBw ho hgrow); clear ho hgrow hV hN y0 y1 y2 y3 y4 y5 y6; go_wp2; go_roundw
            case rel => exact ⟨k + 1, _, _, _, by omega, by go_num, rfl, rfl, HI.out.more (⟨0, G, 0, 0, 0, (k : Int), 0⟩ : NoteT) ⟨rfl, rfl, by simp; try omega, by simp; try omega, by simp; try omega, by simp; try omega⟩ hown' hb1 g2 (by unfold NoteT.bal bal; simp; try omega) (by simp; try omega)⟩
            case measure => simp [intOf]; omega
      · go_wp2
        go_meet
        case rel => exact ⟨k, B, D, xs, hk, rfl, rfl, HI.out⟩
    · go_wp2
      go_meet
      case rel => exact ⟨k, B, D, xs, hk, rfl, rfl, HI.out⟩
  case rest =>
  obtain ⟨n, B, D, xs, hn8, rfl, rfl, hI⟩ := hcut
  clear HC HP HQ hm p1 p2 p3 q1 q2 q3
  obtain ⟨kn, hkn⟩ := Int.eq_ofNat_of_zero_le (Int.emod_nonneg a3 (b := (n : Int) - 0 + 1) (by omega))
  have hkl : kn ≤ n := by
    have := Int.emod_lt_of_pos a3 (b := (n : Int) - 0 + 1) (by omega)
    omega
  have E1 : Hid (0 + a3 % ((n : Int) - 0 + 1) = (kn : Int)) := by show _ = _; rw [hkn]; simp
  have E2 := E1
  have E3 := E1
  clear hkn
  have HF : Hid (∀ ys : List NoteT, (∀ x ∈ ys, x ∈ xs) → ys.length ≤ 8 → (∀ x ∈ ys, Calm x.og x.i x.q x.d) ∧ SumFits NoteT.bal ys ∧ SumFits NoteT.s ys ∧ SumFits NoteT.d ys) := by
    intro ys hy hl
    refine ⟨fun x hx => ?_, SumFits.of 1099511627776 (fun x hx => ?_) (by omega) (by omega), SumFits.of 8 (fun x hx => ?_) (by omega) (by omega), SumFits.of 1099511627776 (fun x hx => ?_) (by omega) (by omega)⟩
    · obtain ⟨j, _, f⟩ := hI.mem (hy x hx); exact f.calm
    · obtain ⟨j, _, f⟩ := hI.mem (hy x hx); exact f.bal
    · obtain ⟨j, hj, f⟩ := hI.mem (hy x hx); rw [f.s]; omega
    · obtain ⟨j, _, f⟩ := hI.mem (hy x hx); have := f.d0; have := f.og; have := f.i0; have := f.og1; omega
  have HNil : Hid (SumFits NoteT.bal [] ∧ SumFits NoteT.s [] ∧ SumFits NoteT.d []) := (HF.out [] (by simp) (by simp)).2
  have bd := hI.bd hn8
  obtain ⟨TR, hTR⟩ : ∃ t : Int, ((n * (n - 1) / 2 : Nat) : Int) = t := ⟨_, rfl⟩
  have T2 : (n : Int) * ((n : Int) - 1) = TR * 2 := by
    rw [← hTR]
    match n, hn8 with
    | 0, _ => rfl
    | 1, _ => rfl
    | 2, _ => rfl
    | 3, _ => rfl
    | 4, _ => rfl
    | 5, _ => rfl
    | 6, _ => rfl
    | 7, _ => rfl
    | 8, _ => rfl
  have TR0 : 0 ≤ TR := by omega
  have TR1 : TR ≤ 100 := by
    have h1 : n * (n - 1) ≤ 8 * 7 := Nat.mul_le_mul hn8 (by omega)
    omega
  have hs3 := hI.s
  rw [hTR] at hs3
  clear hTR
  have HS : Hid (sumBy NoteT.bal xs = B ∧ sumBy NoteT.d xs = D ∧ sumBy NoteT.s xs = TR) := ⟨hI.b, hI.d, hs3⟩
  have HT : Hid (sumBy NoteT.bal (xs.drop kn ++ xs.take kn) = B ∧ sumBy NoteT.d (xs.drop kn ++ xs.take kn) = D ∧ sumBy NoteT.s (xs.drop kn ++ xs.take kn) = TR) := by
    have e : ∀ g : NoteT → Int, sumBy g (xs.drop kn ++ xs.take kn) = sumBy g xs := fun g => by
      rw [sumBy_append, Int.add_comm, ← sumBy_append, List.take_append_drop]
    exact ⟨(e _).trans hI.b, (e _).trans hI.d, (e _).trans hs3⟩
  have hlies : Lies 7 NoteT.f wc u9 xs := own_lies NoteT.len hI.own hI.len
  have hB := hI.below
  have HL : Hid (xs.length = n) := hI.len
  have HO : Hid (wc.ownsRow w.heap.size 27 7 u9 n (xs.flatMap NoteT.f)) := hI.own
  clear hI hs3
  rcases HO.out.2 with ⟨rfl, h0⟩ | ⟨g, cp, cur, rfl, hg, _, hcp, hcm, _, _⟩
  · subst h0
    obtain rfl : xs = [] := List.eq_nil_of_length_eq_zero HL.out
    obtain rfl : kn = 0 := by omega
    have hB0 : B = 0 := by rw [← HS.out.1]; rfl
    have hD0 : D = 0 := by rw [← HS.out.2.1]; rfl
    have hT0 : TR = 0 := by rw [← HS.out.2.2]; rfl
    subst hB0 hD0 hT0
    have RN : Hid (∀ wx, Lies 7 NoteT.f wx (.slice none 0 0) []) := fun wx => Lies.nil _ _ _
    clear HS HT hlies T2 TR0 TR1 bd HO E1 E2 E3
    have E1 : Hid (0 + a3 % (0 - 0 + 1) = 0) := by show _ = _; omega
    have E2 := E1
    have E3 := E1
    go_upto_region 19 with (first
      | (go_at_call 15; refine (within_any _ _ _ (by omega) (by omega) (by omega) (by omega) _).mono ?_; rintro e wq ⟨rfl, hq⟩; have hq := hq.symm; subst hq; (first | rw [E1.out] | rw [E2.out] | rw [E3.out]))
      | (go_at_call 20; refine (total_any _ [] _ (RN.out _) (by simp) HNil.out.1 HNil.out.2.1 HNil.out.2.2).mono ?_; rintro e wn ⟨rfl, bn⟩; rw [sumBy_nil, sumBy_nil, sumBy_nil]))
    have O0 : Hid ((wn.alloc (.cells #[] 27)).drew.ownsRow wn.heap.size 27 7 (.slice (some ⟨wn.heap.size, 0, none⟩) 0 0) 0 []) := (World.ownsRow_lit (base := wn.heap.size) (size := 7) wn #[] 0 (Nat.le_refl _) (by unfold maxLen; omega) rfl).drew
    have B0 : Hid (Below wn.heap.size wn (wn.alloc (.cells #[] 27)).drew) := ((Below.refl _ _).alloc (Nat.le_refl _) _).drew
    replace hB := below_then hB bn
    clear bn
    go_region_held3 (fun _ => True) (trivial) (first
      | ((refine step_append_src (by rfl) (.tmp 94) (.tmp 97) 41 (by rfl) wn.heap.size 27 i0 (.agg #[.int .i64 0, .int .i64 0, .int .i64 0, .int .i64 0, .int .i64 0, .int .i64 0, .int .i64 0]) 7 56 Try.underlying41 hi hz0 hz1 hz2 rfl (by decide) (.slice (some ⟨wn.heap.size, 0, none⟩) 0 0) 0 [] (by rfl) O0.out (.slice none 0 0) 0 [] (by rfl) src_none rfl (by simp) (by unfold maxLen; omega) (by omega) B0.out.size ?_; intro v1 w1 o1 g1 l1; have B1 : Hid (Below wn.heap.size wn w1) := below_grown B0.out g1 (fun k h => by simp [Value.ownBlock] at h; omega); have O1 : Hid (w1.ownsRow wn.heap.size 27 7 v1 0 []) := o1; clear o1 g1 l1))
      | ((refine step_append_src (by rfl) (.tmp 98) (.tmp 101) 41 (by rfl) wn.heap.size 27 i0 (.agg #[.int .i64 0, .int .i64 0, .int .i64 0, .int .i64 0, .int .i64 0, .int .i64 0, .int .i64 0]) 7 56 Try.underlying41 hi hz0 hz1 hz2 rfl (by decide) v1 0 [] (by rfl) O1.out (.slice none 0 0) 0 [] (by rfl) src_none rfl (by simp) (by unfold maxLen; omega) (by omega) B1.out.size ?_; intro v2 w2 o2 g2 l2; have B2 : Hid (Below wn.heap.size wn w2) := below_grown B1.out g2 (fun k h => (O1.out.lt k h).1); have R2 : Hid (Lies 7 NoteT.f w2 v2 []) := own_lies (base := wn.heap.size) (e := 27) (n := 0) NoteT.len o2 rfl; clear o2 g2 l2))
      | ((go_at_call_of 20 (v2); refine (total_any v2 _ _ R2.out (by simp) HNil.out.1 HNil.out.2.1 HNil.out.2.2).mono ?_; rintro e w3 ⟨rfl, b3⟩; rw [sumBy_nil, sumBy_nil, sumBy_nil])))
    replace hB := below_then (below_then hB B2.out) b3
    clear b3
    go_wp2_with (first
      | (go_at_call 20; refine (total_any _ [] _ (RN.out _) (by simp) HNil.out.1 HNil.out.2.1 HNil.out.2.2).mono ?_; rintro e w4 ⟨rfl, b4⟩; rw [sumBy_nil, sumBy_nil, sumBy_nil])
      | (go_at_call 3; refine (noteRuns_any _).mono ?_; rintro e w5 ⟨rfl, b5⟩))
    go_ret
    exact ⟨rfl, below_then (below_then hB b4) b5⟩
  · unfold maxLen at hcm
    go_upto_region 19 with (first
      | (go_at_call 15; refine (within_any _ _ _ (by omega) (by omega) (by omega) (by omega) _).mono ?_; rintro e wq ⟨rfl, hq⟩; have hq := hq.symm; subst hq; (first | rw [E1.out] | rw [E2.out] | rw [E3.out]))
      | (go_at_call 20; refine (total_any _ xs _ hlies (HF.out xs (fun _ h => h) (by rw [HL.out]; exact hn8)).1 (HF.out xs (fun _ h => h) (by rw [HL.out]; exact hn8)).2.1 (HF.out xs (fun _ h => h) (by rw [HL.out]; exact hn8)).2.2.1 (HF.out xs (fun _ h => h) (by rw [HL.out]; exact hn8)).2.2.2).mono ?_; rintro e wn ⟨rfl, bn⟩; rw [HS.out.1, HS.out.2.1, HS.out.2.2]))
    have HLw : Hid (Lies 7 NoteT.f wn (.slice (some ⟨g, 0, none⟩) n cp) xs) := hlies.below bn
    replace hB := below_then hB bn
    clear bn hlies
    have k1 : (0 : Int) ≤ (kn : Int) := by omega
    have k2 : (kn : Int) ≤ (cp : Int) := by omega
    have k3 : (kn : Int) ≤ (n : Int) := by omega
    have k4 : (n : Int) ≤ (cp : Int) := by omega
    obtain ⟨A, hA⟩ : ∃ A, (if cp = kn then some (⟨g, 0, none⟩ : Addr) else some ⟨g, kn * 7, none⟩) = A := ⟨_, rfl⟩
    have hrd := HLw.out.drop kn hkl A (by rw [← hA, Nat.zero_add])
    have hrt := HLw.out.take kn hkl
    have o0 : (wn.alloc (.cells #[] 27)).drew.ownsRow wn.heap.size 27 7 (.slice (some ⟨wn.heap.size, 0, none⟩) 0 0) 0 [] := (World.ownsRow_lit (base := wn.heap.size) (size := 7) wn #[] 0 (Nat.le_refl _) (by unfold maxLen; omega) rfl).drew
    have b0 : Below wn.heap.size wn (wn.alloc (.cells #[] 27)).drew := ((Below.refl _ _).alloc (Nat.le_refl _) _).drew
    have s1 := (hrd.below b0).src NoteT.len (by omega)
    have HL1 : Hid ((xs.drop kn).length = n - kn) := by show _ = _; rw [List.length_drop, HL.out]
    have HL2 : Hid ((xs.take kn).length = kn) := by show _ = _; rw [List.length_take, HL.out]; omega
    rw [HL1.out] at s1
    have S1 : Hid (Src (wn.alloc (.cells #[] 27)).drew (.slice A (n - kn) (cp - kn)) (n - kn) ((xs.drop kn).flatMap NoteT.f)) := s1
    have O0 : Hid ((wn.alloc (.cells #[] 27)).drew.ownsRow wn.heap.size 27 7 (.slice (some ⟨wn.heap.size, 0, none⟩) 0 0) 0 []) := o0
    have B0 : Hid (Below wn.heap.size wn (wn.alloc (.cells #[] 27)).drew) := b0
    have RT : Hid (Lies 7 NoteT.f wn (.slice (some ⟨g, 0, none⟩) kn cp) (xs.take kn)) := hrt
    have HA : Hid ((if cp = kn then some (⟨g, 0, none⟩ : Addr) else some ⟨g, kn * 7, none⟩) = A) := hA
    have HFt : Hid ((∀ x ∈ xs.drop kn ++ xs.take kn, Calm x.og x.i x.q x.d) ∧ SumFits NoteT.bal (xs.drop kn ++ xs.take kn) ∧ SumFits NoteT.s (xs.drop kn ++ xs.take kn) ∧ SumFits NoteT.d (xs.drop kn ++ xs.take kn)) := HF.out (xs.drop kn ++ xs.take kn) (fun x hx => (List.mem_append.1 hx).elim (fun h => List.mem_of_mem_drop h) (fun h => List.mem_of_mem_take h)) (by rw [List.length_append, HL1.out, HL2.out]; omega)
    clear s1 o0 b0 hrt hrd
    go_region_held3 (fun _ => True) (trivial) (first
      | ((refine step_append_src (by rfl) (.tmp 94) (.tmp 97) 41 (by rfl) wn.heap.size 27 i0 (.agg #[.int .i64 0, .int .i64 0, .int .i64 0, .int .i64 0, .int .i64 0, .int .i64 0, .int .i64 0]) 7 56 Try.underlying41 hi hz0 hz1 hz2 rfl (by decide) (.slice (some ⟨wn.heap.size, 0, none⟩) 0 0) 0 [] (by rfl) O0.out (.slice A (n - kn) (cp - kn)) (n - kn) ((xs.drop kn).flatMap NoteT.f) (by rfl) S1.out (by rw [flat_length NoteT.len, HL1.out]) (flat_one NoteT.one) (by unfold maxLen; omega) (by omega) B0.out.size ?_; intro v1 w1 o1 g1 l1; have B1 : Hid (Below wn.heap.size wn w1) := below_grown B0.out g1 (fun k h => by simp [Value.ownBlock] at h; omega); have O1 : Hid (w1.ownsRow wn.heap.size 27 7 v1 (n - kn) ((xs.drop kn).flatMap NoteT.f)) := by { have := o1; rw [Nat.zero_add, List.nil_append] at this; exact this }; clear o1 g1 l1))
      | ((refine step_append_src (by rfl) (.tmp 98) (.tmp 101) 41 (by rfl) wn.heap.size 27 i0 (.agg #[.int .i64 0, .int .i64 0, .int .i64 0, .int .i64 0, .int .i64 0, .int .i64 0, .int .i64 0]) 7 56 Try.underlying41 hi hz0 hz1 hz2 rfl (by decide) v1 (n - kn) ((xs.drop kn).flatMap NoteT.f) (by rfl) O1.out (.slice (some ⟨g, 0, none⟩) kn cp) kn ((xs.take kn).flatMap NoteT.f) (by rfl) (by have h := (RT.out.below B1.out).src NoteT.len (by omega); rw [HL2.out] at h; exact h) (by rw [flat_length NoteT.len, HL2.out]) (flat_one NoteT.one) (by unfold maxLen; omega) (by omega) B1.out.size ?_; intro v2 w2 o2 g2 l2; have B2 : Hid (Below wn.heap.size wn w2) := below_grown B1.out g2 (fun k h => (O1.out.lt k h).1); have R2 : Hid (Lies 7 NoteT.f w2 v2 (xs.drop kn ++ xs.take kn)) := by { refine own_lies (base := wn.heap.size) (e := 27) (n := n - kn + kn) NoteT.len ?_ (by rw [List.length_append, HL1.out, HL2.out]); rw [List.flatMap_append]; exact o2 }; clear o2 g2 l2))
      | ((go_at_call_of 20 (v2); refine (total_any v2 _ _ R2.out HFt.out.1 HFt.out.2.1 HFt.out.2.2.1 HFt.out.2.2.2).mono ?_; rintro e w3 ⟨rfl, b3⟩; rw [HT.out.1, HT.out.2.1, HT.out.2.2])))
    replace hB := below_then (below_then hB B2.out) b3
    clear b3
    have z1 : IntKind.i64.wrap ((n : Int) * ((n : Int) - 1)) = TR * 2 := by rw [T2]; exact wrap_in _ (by omega) (by omega)
    have z2 : IntKind.i64.wrap ((n : Int) - 1) = (n : Int) - 1 := wrap_in _ (by omega) (by omega)
    go_upto_region 21 with (go_at_call 20; refine (total_any _ [] _ (Lies.nil _ _ _) (by simp) HNil.out.1 HNil.out.2.1 HNil.out.2.2).mono ?_; rintro e w4 ⟨rfl, b4⟩; rw [sumBy_nil, sumBy_nil, sumBy_nil])
    have z3 : Int.tdiv (TR * 2) 2 = TR := by rw [Int.tdiv_eq_ediv_of_nonneg (by omega)]; omega
    go_wp2_with (go_at_call 3; refine (noteRuns_any _).mono ?_; rintro e w5 ⟨rfl, b5⟩)
    go_ret
    exact ⟨rfl, below_then (below_then hB b4) b5⟩
end Go.Proofs.Ytpfoimjmnmlnkaa
