/-
  Package cascadekeep, plain: the line that Of makes of a loan.
-/
import Derived.Test.YtoijgognbfifbaaKeep
import Derived.Test.YtoijgognbfifbaaPoolP
namespace Go.Proofs.Ytoijgognbfifbaa

/-- The line of the i-th loan, with this Id and balance, so much of it lost; none, if it is left out. -/
def ofLine (z0 z1 z2 z3 z4 z5 : List Int) (i : Nat) (id bal ls : Int) : Option LineT :=
  if bits .and .i64 (pickV z4 i) 15 == 15 then none
  else if 0 < bal then
    let p := pickV z0 i % (bal / 4 + 1)
    let q0 := pickV z1 i % (2 * (bal - p) + 1)
    let q := if bal - p < q0 then 0 else q0
    let d := bits .and .i64 (pickV z5 i) 7 == 7
    some ⟨id, p, q, pickV z2 i % (1 + bal / 50 + 1), if d then pickV z3 i % (bal - p - q + 1) else 0, max 0 (pickV z4 i % (24 + 1) - 12), d⟩
  else some ⟨id, 0, 0, 0, if 0 < ls then pickV z3 i % (ls + 1) else 0, 0, false⟩

theorem ofLine_may {B : Int} {o : LoanP} {z0 z1 z2 z3 z4 z5 : List Int} {i : Nat} {x : LineT} (h : o.Wf B) (hB : B ≤ 549755813888) (e : ofLine z0 z1 z2 z3 z4 z5 i o.id o.bal o.lost = some x) : x.id = o.id ∧ mayP o x = true ∧ x.ok = true := by
  obtain ⟨b0, b1, l0, l1, hc, hg, _, _, _⟩ := h
  obtain ⟨id, bal, lost, late, over⟩ := o
  simp only at *
  unfold ofLine at e
  split at e
  · simp at e
  split at e
  · rename_i hb
    have hov : over = false := by
      cases over with
      | false => rfl
      | true => have := hg rfl; omega
    subst hov
    have hl := hc rfl
    subst hl
    simp only at e
    injection e with e
    have w0 := win_bd (pickV z0 i) (bal / 4) (by omega)
    generalize pickV z0 i % (bal / 4 + 1) = p at e w0
    have w1 := win_bd (pickV z1 i) (2 * (bal - p)) (by omega)
    generalize pickV z1 i % (2 * (bal - p) + 1) = q0 at e w1
    obtain ⟨q, hq⟩ : ∃ q, (if bal - p < q0 then 0 else q0) = q := ⟨_, rfl⟩
    rw [hq] at e
    have w2 : 0 ≤ q ∧ q ≤ bal - p := by
      rw [← hq]
      split <;> omega
    have w3 := win_bd (pickV z2 i) (1 + bal / 50) (by omega)
    generalize pickV z2 i % (1 + bal / 50 + 1) = t at e w3
    have w4 := win_bd (pickV z4 i) 24 (by omega)
    generalize pickV z4 i % (24 + 1) = t4 at e w4
    generalize (bits .and .i64 (pickV z5 i) 7 == 7) = d at e
    have w5 := win_bd (pickV z3 i) (bal - p - q) (by omega)
    generalize pickV z3 i % (bal - p - q + 1) = c at e w5
    subst e
    have hmax : 0 ≤ max 0 (t4 - 12) ∧ max 0 (t4 - 12) ≤ 12 := by omega
    cases d with
    | true =>
      refine ⟨rfl, ?_, (LineT.ok_iff _).2 ⟨⟨w0.1, by simp only; omega, w2.1, by simp only; omega, w3.1, by simp only; omega, by simp; exact w5.1, by simp; omega⟩, hmax.1, hmax.2⟩⟩
      simp only [mayP, kindP, lostP, leftP, if_true, Bool.true_or, Bool.and_eq_true, decide_eq_true_eq, Bool.false_eq_true, if_false, true_and]
      omega
    | false =>
      refine ⟨rfl, ?_, (LineT.ok_iff _).2 ⟨⟨w0.1, by simp only; omega, w2.1, by simp only; omega, w3.1, by simp only; omega, by simp, by simp⟩, hmax.1, hmax.2⟩⟩
      simp only [mayP, kindP, lostP, leftP, Bool.false_or, Bool.and_eq_true, decide_eq_true_eq, Bool.false_eq_true, if_false, true_and]
      omega
  · rename_i hb
    injection e with e
    have hb0 : bal = 0 := by omega
    subst hb0
    obtain ⟨c, hcc⟩ : ∃ c, (if 0 < lost then pickV z3 i % (lost + 1) else 0) = c := ⟨_, rfl⟩
    rw [hcc] at e
    have w5 : 0 ≤ c ∧ c ≤ lost := by
      rw [← hcc]
      split
      · exact win_bd _ _ (by omega)
      · omega
    subst e
    refine ⟨rfl, ?_, (LineT.ok_iff _).2 ⟨⟨by simp, by simp, by simp, by simp, by simp, by simp, w5.1, by simp only; omega⟩, by simp, by simp⟩⟩
    cases over with
    | true => simp [mayP, kindP, lostP]; omega
    | false =>
      have := hc rfl
      simp [mayP, kindP, lostP]
      omega
/-- The lines that Of makes of a pool's loans, from the i-th on. -/
def ofLines (z0 z1 z2 z3 z4 z5 : List Int) : Nat → List LoanP → List (Option LineT)
  | _, [] => []
  | i, o :: r => ofLine z0 z1 z2 z3 z4 z5 i o.id o.bal o.lost :: ofLines z0 z1 z2 z3 z4 z5 (i + 1) r
theorem ofLines_for {B : Int} (hB : B ≤ 549755813888) (z0 z1 z2 z3 z4 z5 : List Int) : ∀ (p : List LoanP) (i : Nat), (∀ o ∈ p, o.Wf B) → LinesFor p (ofLines z0 z1 z2 z3 z4 z5 i p)
  | [], _, _ => .nil
  | o :: r, i, h => by
    unfold ofLines
    cases e : ofLine z0 z1 z2 z3 z4 z5 i o.id o.bal o.lost with
    | none => exact .skip (ofLines_for hB z0 z1 z2 z3 z4 z5 r (i + 1) (fun y hy => h y (by simp [hy])))
    | some x =>
      obtain ⟨h1, h2, h3⟩ := ofLine_may (h o (by simp)) hB e
      exact .line h1 h2 h3 (ofLines_for hB z0 z1 z2 z3 z4 z5 r (i + 1) (fun y hy => h y (by simp [hy])))
end Go.Proofs.Ytoijgognbfifbaa
