/-
  The walk of NoteRuns.
-/
import Derived.Test.YtpfoimjmnmlnkaaNoteRight
namespace Go.Proofs.Ytpfoimjmnmlnkaa
open Go.RowKit

section
variable {b o : Nat} {rk og rt i q s d c t i' d' s' : Int} {w : World}
theorem pay_to (hN : Nt w b o rk og rt i q s d) (h : Calm og i q d) (e1 : (if mayPut i (upTo (bal og i q d) c) then upTo (bal og i q d) c else 0) = t) (e2 : i + t = i') :
    Calls Try.prog 9 #[.pointer (some ⟨b, o, none⟩), .int .i64 c] w fun e w' => e = .returned (.int .i64 t) ∧ Chn b o w w' ∧ Nt w' b o rk og rt i' q s d := by
  subst e1 e2
  exact pay_any b o rk og rt i q s d c w h hN
theorem write_to (hN : Nt w b o rk og rt i q s d) (h : Calm og i q d) (e1 : upTo (bal og i q d) c = t) (e2 : d + t = d') :
    Calls Try.prog 10 #[.pointer (some ⟨b, o, none⟩), .int .i64 c] w fun e w' => e = .returned (.int .i64 t) ∧ Chn b o w w' ∧ Nt w' b o rk og rt i q s d' := by
  subst e1 e2
  exact write_any b o rk og rt i q s d c w h hN
theorem restore_to (hN : Nt w b o rk og rt i q s d) (h : Calm og i q d) (e1 : upTo d c = t) (e2 : d - t = d') :
    Calls Try.prog 11 #[.pointer (some ⟨b, o, none⟩), .int .i64 c] w fun e w' => e = .returned (.int .i64 t) ∧ Chn b o w w' ∧ Nt w' b o rk og rt i q s d' := by
  subst e1 e2
  exact restore_any b o rk og rt i q s d c w (by have := h.d0; omega) (by have := h.d1; omega) hN
theorem balance_to (h : Calm og i q d) (e1 : bal og i q d = t) :
    Calls Try.prog 12 #[noteV rk og rt i q s d] w fun e w' => e = .returned (.int .i64 t) ∧ Below w.heap.size w w' := by
  subst e1
  exact balance_any rk og rt i q s d h w
theorem right_to {ok : Bool} (h : Fit i q) (e1 : rightN rk og rt i q s d = ok) :
    Calls Try.prog 14 #[noteV rk og rt i q s d] w fun e w' => e = .returned (.bool ok) ∧ Below w.heap.size w w' := by
  subst e1
  exact noteRight_any rk og rt i q s d h w
theorem has_to (h : Fit i q) (e1 : i - q = t) : Calls Try.prog 13 #[.agg #[.int .i64 i, .int .i64 q]] w fun e w' => e = .returned (.int .i64 t) ∧ Below w.heap.size w w' := by
  subst e1
  exact has_any i q h.q0 h.qi h.i1 w
end

set_option maxRecDepth 100000 in
set_option maxHeartbeats 2000000 in
theorem noteRuns_any (w : World) :
    Calls Try.prog 3 #[] w fun e w' => e = .returned (.bool true) ∧ Below w.heap.size w w' := by
  have F1 : Hid (Calm 100 0 0 0) := by show Calm _ _ _ _; refine ⟨⟨?_, ?_, ?_⟩, ?_, ?_, ?_, ?_⟩ <;> omega
  have F2 : Hid (Calm 100 30 0 0) := by show Calm _ _ _ _; refine ⟨⟨?_, ?_, ?_⟩, ?_, ?_, ?_, ?_⟩ <;> omega
  have F3 : Hid (Calm 100 30 0 70) := by show Calm _ _ _ _; refine ⟨⟨?_, ?_, ?_⟩, ?_, ?_, ?_, ?_⟩ <;> omega
  have F4 : Hid (Calm 100 30 0 50) := by show Calm _ _ _ _; refine ⟨⟨?_, ?_, ?_⟩, ?_, ?_, ?_, ?_⟩ <;> omega
  go_enter Try.func3, Try.ntmps3
  go_upto_region 2 with (go_at_call 8; refine (new_any _ _ _ _).mono ?_; rintro e w1 ⟨rfl, b1⟩; unfold noteV)
  refine wp_letter (fun wx => Below w.heap.size w wx ∧ ∃ A, w1.heap.size = A ∧ w.heap.size ≤ A ∧ Nt wx A 0 0 100 0 0 0 0 0) ?_ ?_
  · exact ⟨below_alloc b1 _, _, rfl, b1.size, Nt.fresh _ _ _ _ _ _ _ _ _⟩
  rintro W ⟨hB, A, eA, hA, hN⟩
  rw [eA]
  clear eA b1
  obtain ⟨x0, x1, x2, x3, x4, x5, x6, xf⟩ := id hN; clear xf
  go_wp2_with (first
    | (go_at_call 9; refine (pay_to (t := 30) (i' := 30) hN F1.out (by decide) rfl).mono ?_; rintro e wn ⟨rfl, cn, pn⟩; replace hB := cn.below hB hA hB.size; replace hN := pn; clear cn pn; obtain ⟨x0, x1, x2, x3, x4, x5, x6, xf⟩ := id hN; clear xf)
    | (go_at_call 10; refine (write_to (t := 70) (d' := 70) hN F2.out (by decide) rfl).mono ?_; rintro e wn ⟨rfl, cn, pn⟩; replace hB := cn.below hB hA hB.size; replace hN := pn; clear cn pn; obtain ⟨x0, x1, x2, x3, x4, x5, x6, xf⟩ := id hN; clear xf)
    | (go_at_call 11; refine (restore_to (t := 20) (d' := 50) hN F3.out (by decide) rfl).mono ?_; rintro e wn ⟨rfl, cn, pn⟩; replace hB := cn.below hB hA hB.size; replace hN := pn; clear cn pn; obtain ⟨x0, x1, x2, x3, x4, x5, x6, xf⟩ := id hN; clear xf)
    | (go_at_call 12; refine (balance_to (t := 20) F4.out (by decide)).mono ?_; rintro e wn ⟨rfl, bn⟩; replace hB := below_then hB bn; replace hN := hN.then bn; clear bn; obtain ⟨x0, x1, x2, x3, x4, x5, x6, xf⟩ := id hN; clear xf)
    | (go_at_call 13; refine (has_any _ _ (by omega) (by omega) (by omega) _).mono ?_; rintro e wn ⟨rfl, bn⟩; replace hB := below_then hB bn; replace hN := hN.then bn; clear bn; obtain ⟨x0, x1, x2, x3, x4, x5, x6, xf⟩ := id hN; clear xf)
    | (go_at_call 14; refine (right_to (ok := true) F4.out.fit (by decide)).mono ?_; rintro e wn ⟨rfl, bn⟩; replace hB := below_then hB bn; replace hN := hN.then bn; clear bn; obtain ⟨x0, x1, x2, x3, x4, x5, x6, xf⟩ := id hN; clear xf))
  go_ret
  exact ⟨rfl, hB⟩
end Go.Proofs.Ytpfoimjmnmlnkaa
