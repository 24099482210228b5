/-
  The walk of PurseRuns.
-/
import Derived.Test.YtkjglnjneblomaaPurseMove
namespace Go.Proofs.Ytkjglnjneblomaa
open Go.RowKit

theorem take_to {b o : Nat} {i q n t q' : Int} {w : World} (h : Pur w b o i q) (hf : Fit i q) (e1 : goes i q n = t) (e2 : q + t = q') :
    Calls Try.prog 9 #[.pointer (some ⟨b, o, none⟩), .int .i64 n] w fun e w' => e = .returned (.int .i64 t) ∧ Chg b o w w' ∧ Pur w' b o i q' := by
  subst e1 e2
  exact take_any b o i q n w hf h
theorem put_to {b o : Nat} {i q n i' : Int} {ok : Bool} {w : World} (h : Pur w b o i q) (hf : Fit i q) (e1 : mayPut i n = ok) (e2 : (if ok then i + n else i) = i') :
    Calls Try.prog 13 #[.pointer (some ⟨b, o, none⟩), .int .i64 n] w fun e w' => e = .returned (.bool ok) ∧ Chg b o w w' ∧ Pur w' b o i' q := by
  subst e1 e2
  exact put_any b o i q n w hf.i0 hf.i1 h

set_option maxRecDepth 100000 in
set_option maxHeartbeats 2000000 in
theorem purseRuns_any (w : World) :
    Calls Try.prog 3 #[] w fun e w' => e = .returned (.bool true) ∧ Below w.heap.size w w' := by
  have HO : Hid (ofN 10 = 10) := by show _ = _; decide
  have F1 : Hid (Fit 10 0) := by show Fit _ _; constructor <;> omega
  have F2 : Hid (Fit 10 3) := by show Fit _ _; constructor <;> omega
  have F3 : Hid (Fit 10 10) := by show Fit _ _; constructor <;> omega
  go_enter Try.func3, Try.ntmps3
  go_upto_region 2 with (go_at_call 8; refine (of_any _ _).mono ?_; rintro e w1 ⟨rfl, b1⟩; rw [HO.out])
  refine wp_letter (fun wx => Below w.heap.size w wx ∧ ∃ A, w1.heap.size = A ∧ w.heap.size ≤ A ∧ Pur wx A 0 10 0) ?_ ?_
  · exact ⟨below_alloc b1 _, _, rfl, b1.size, Pur.fresh _ _ _ _⟩
  rintro W ⟨hB, A, eA, hA, hP⟩
  rw [eA]
  clear eA b1
  obtain ⟨x0, x1, x2, x3⟩ := id hP
  go_wp2_with (first
    | (go_at_call 9; first
      | (refine (take_to (t := 3) (q' := 3) hP F1.out (by decide) rfl).mono ?_; rintro e wn ⟨rfl, cn, pn⟩; replace hB := cn.below hB hA hB.size; replace hP := pn; clear cn pn; obtain ⟨x0, x1, x2, x3⟩ := id hP)
      | (refine (take_to (t := 7) (q' := 10) hP F2.out (by decide) rfl).mono ?_; rintro e wn ⟨rfl, cn, pn⟩; replace hB := cn.below hB hA hB.size; replace hP := pn; clear cn pn; obtain ⟨x0, x1, x2, x3⟩ := id hP))
    | (go_at_call 10; refine (has_any _ _ (by omega) (by omega) (by omega) _).mono ?_; rintro e wn ⟨rfl, bn⟩; replace hB := below_then hB bn; replace hP := hP.then bn; clear bn; obtain ⟨x0, x1, x2, x3⟩ := id hP)
    | (go_at_call 11; refine (in_any _ _ _).mono ?_; rintro e wn ⟨rfl, bn⟩; replace hB := below_then hB bn; replace hP := hP.then bn; clear bn; obtain ⟨x0, x1, x2, x3⟩ := id hP)
    | (go_at_call 12; refine (out_any _ _ _).mono ?_; rintro e wn ⟨rfl, bn⟩; replace hB := below_then hB bn; replace hP := hP.then bn; clear bn; obtain ⟨x0, x1, x2, x3⟩ := id hP)
    | (go_at_call 13; first
      | (refine (put_to (ok := false) (i' := 10) hP F3.out (by decide) rfl).mono ?_; rintro e wn ⟨rfl, cn, pn⟩; replace hB := cn.below hB hA hB.size; replace hP := pn; clear cn pn; obtain ⟨x0, x1, x2, x3⟩ := id hP)
      | (refine (put_to (ok := true) (i' := 14) hP F3.out (by decide) rfl).mono ?_; rintro e wn ⟨rfl, cn, pn⟩; replace hB := cn.below hB hA hB.size; replace hP := pn; clear cn pn; obtain ⟨x0, x1, x2, x3⟩ := id hP)))
  go_ret
  exact ⟨rfl, hB⟩
end Go.Proofs.Ytkjglnjneblomaa
