/-
  Package pool, plain: pools that a tape turns, round after round; the tapes handed in.
-/
import Derived.Test.YtoijgognbfifbaaPoolOf
namespace Go.Proofs.Ytoijgognbfifbaa
open Go.RowKit

theorem atP_ids {n : Int} : ∀ {p : List LoanP}, atP n p = none ↔ ∀ o ∈ p, o.id ≠ n := ⟨atP_none, atP_no⟩
/-- A line of no loan, last of all: the tape may not be. -/
theorem runP_last : ∀ (l : List LineT) (p : List LoanP) (x : LineT), (∀ n ∈ p.map LoanP.id, n ≠ x.id) → runP p (l ++ [x]) = none
  | [], p, x, h => by
    have : atP x.id p = none := atP_no (fun o ho => h o.id (List.mem_map.2 ⟨o, ho, rfl⟩))
    simp [runP, this]
  | y :: r, p, x, h => by
    rw [List.cons_append, runP]
    cases hi : atP y.id p with
    | none => rfl
    | some i =>
      obtain ⟨o, ho, _⟩ := atP_some hi
      simp only [ho]
      split
      · rw [runP_last r (p.set i (doP o y)) x (fun n hn => by
          obtain ⟨z, hz, rfl⟩ := List.mem_map.1 hn
          rcases List.mem_or_eq_of_mem_set hz with hz | rfl
          · exact h _ (List.mem_map.2 ⟨z, hz, rfl⟩)
          · exact h o.id (List.mem_map.2 ⟨o, mem_at ho, rfl⟩))]
        rfl
      · rfl
theorem applyP_last {l : List LineT} {p : List LoanP} {x : LineT} (h : ∀ o ∈ p, o.id ≠ x.id) : applyP p (l ++ [x]) = none := by
  unfold applyP
  split
  · exact runP_last l p x (fun n hn => by
      obtain ⟨z, hz, rfl⟩ := List.mem_map.1 hn
      exact h z hz)
  · rfl
theorem runP_bd (B : Int) (hB : B ≤ 2199023255552) : ∀ (l : List LineT) (p q : List LoanP) (a : AggP), (∀ x ∈ l, x.ok = true) → (∀ o ∈ p, o.Wf B) → runP p l = some (q, a) → a.Bd (l.length * 2199023255552)
  | [], p, q, a, _, _, h => by
    simp [runP] at h
    obtain ⟨_, rfl⟩ := h
    exact ⟨by decide, by decide, by decide, by decide, by decide, by decide, by decide, by decide⟩
  | x :: r, p, q, a, hx, hw, h => by
    rw [runP] at h
    cases hi : atP x.id p with
    | none => rw [hi] at h; simp at h
    | some i =>
      obtain ⟨o, ho, _⟩ := atP_some hi
      rw [hi] at h
      simp only [ho] at h
      split at h
      · rename_i hm
        cases hr : runP (p.set i (doP o x)) r with
        | none => rw [hr] at h; simp at h
        | some m =>
          obtain ⟨q', b⟩ := m
          rw [hr] at h
          simp at h
          obtain ⟨rfl, rfl⟩ := h
          have k1 := aggP_bd (hw o (mem_at ho)) hB (hx x (by simp)) hm
          have k2 := runP_bd B hB r _ _ _ (fun y hy => hx y (by simp [hy])) (all_set hw (doP_wf (hw o (mem_at ho)) (hx x (by simp)) hm)) hr
          have := k1.plus k2
          have e : ((x :: r).length : Int) * 2199023255552 = 2199023255552 + (r.length : Int) * 2199023255552 := by
            rw [List.length_cons]
            omega
          rw [e]
          exact this
      · simp at h
theorem risesP_ids : ∀ (p q : List LoanP) (a : Int), p.map LoanP.id = q.map LoanP.id → risesP a p → risesP a q
  | [], [], _, _, _ => trivial
  | [], _ :: _, _, e, _ => by simp at e
  | _ :: _, [], _, e, _ => by simp at e
  | o :: r, y :: s, a, e, h => by
    simp at e
    refine ⟨e.1 ▸ h.1, ?_⟩
    rw [← e.1]
    exact risesP_ids r s o.id e.2 h.2
/-- A pool that may be. -/
structure QOk (q : List LoanP) : Prop where
  len : q.length ≤ 10
  wf : ∀ o ∈ q, o.Wf 100000
  rises : risesP 0 q
  ids : ∀ o ∈ q, o.id < 30
theorem QOk.sum {q : List LoanP} (h : QOk q) : 0 ≤ sumBy LoanP.bal q ∧ sumBy LoanP.bal q ≤ 1000000 ∧ 0 ≤ sumBy LoanP.lost q ∧ sumBy LoanP.lost q ≤ 1000000 := by
  have h1 := sumBy_le LoanP.bal 100000 q (fun o ho => ⟨(h.wf o ho).b0, (h.wf o ho).b1⟩)
  have h2 := sumBy_le LoanP.lost 100000 q (fun o ho => ⟨(h.wf o ho).l0, (h.wf o ho).l1⟩)
  have := h.len
  omega
theorem LoansOk.q {k : Nat} {xs : List LnT} (h : LoansOk k xs) (hk : k ≤ 10) : QOk (xs.map LnT.begin) :=
  ⟨by rw [List.length_map, h.len]; exact hk, h.wf, h.rises, fun o ho => by
    obtain ⟨x, hx, rfl⟩ := List.mem_map.1 ho
    have := h.ids x hx
    show x.id < 30
    omega⟩
theorem begin_lost (xs : List LnT) : sumBy LoanP.lost (xs.map LnT.begin) = 0 := by
  induction xs with
  | nil => rfl
  | cons x r ih =>
    simp only [sumBy, List.map_cons, List.sum_cons] at ih ⊢
    rw [ih]
    rfl
/-- What a tape that may be does to such a pool. -/
structure Turned (q : List LoanP) (t : List LineT) (q' : List LoanP) (g : AggP) : Prop where
  apply : applyP q t = some (q', g)
  ok : QOk q'
  len : q'.length = q.length
  bals : sumBy LoanP.bal q - sumBy LoanP.bal q' = g.pr + g.ls
  losts : sumBy LoanP.lost q' - sumBy LoanP.lost q = g.ls - g.rc
  bd : g.Bd 140737488355328
  stay : ∀ (k : Nat) (o : LoanP), q[k]? = some o → (∀ x ∈ t, x.id ≠ o.id) → q'[k]? = some o
  lines : t.length ≤ 10
theorem QOk.turn {q : List LoanP} {ls : List (Option LineT)} (h : QOk q) (hl : LinesFor q ls) : ∃ q' g, Turned q (theLines ls) q' g := by
  obtain ⟨g, hg⟩ := linesFor_apply hl (by have := h.len; omega) h.rises
  have hr : runP q (theLines ls) = some (stepsP q ls, g) := by
    unfold applyP at hg
    split at hg
    · exact hg
    · cases hg
  obtain ⟨k1, k2, k3, k4⟩ := runP_sums 100000 _ _ _ _ (linesFor_ok hl) h.wf hr
  have kb := runP_bd 100000 (by decide) _ _ _ _ (linesFor_ok hl) h.wf hr
  have kl := linesFor_length hl
  have hlen : (stepsP q ls).length = q.length := by
    have := congrArg List.length k4
    simpa using this
  have h10 := h.len
  refine ⟨stepsP q ls, g, hg, ⟨by omega, k1, risesP_ids _ _ _ k4.symm h.rises, fun o ho => ?_⟩, hlen, k2, k3, ?_, fun k o ho hx => runP_stay _ _ _ _ hr k o ho hx, by omega⟩
  · have : o.id ∈ q.map LoanP.id := by
      rw [← k4]
      exact List.mem_map.2 ⟨o, ho, rfl⟩
    obtain ⟨y, hy, e⟩ := List.mem_map.1 this
    rw [← e]
    exact h.ids y hy
  · obtain ⟨t1, t2, t3, t4, t5, t6, t7, t8⟩ := kb
    have : ((theLines ls).length : Int) * 2199023255552 ≤ 140737488355328 := by omega
    exact ⟨t1, by omega, t3, by omega, t5, by omega, t7, by omega⟩

/-- Tapes handed in: so many. -/
def TapesIn (w : World) (v : Value) (n : Nat) : Prop := ∃ a cap, v = .slice a n cap ∧ n ≤ maxLen ∧ ∀ i, i < n → ∃ b off s0 s1 s2 s3 s4 s5, a = some ⟨b, off, none⟩ ∧ w.cell? ⟨b, off + i * 6, none⟩ = some s0 ∧ w.cell? ⟨b, off + i * 6 + 1, none⟩ = some s1 ∧ w.cell? ⟨b, off + i * 6 + 2, none⟩ = some s2 ∧ w.cell? ⟨b, off + i * 6 + 3, none⟩ = some s3 ∧ w.cell? ⟨b, off + i * 6 + 4, none⟩ = some s4 ∧ w.cell? ⟨b, off + i * 6 + 5, none⟩ = some s5 ∧ TapeIn w (.agg #[s0, s1, s2, s3, s4, s5])
theorem arg_tapes {w : World} {v : Value} (h : Arg w (.slice 6 (.struct (.cons 1 (.slice 1 (.int .i64)) (.cons 1 (.slice 1 (.int .i64)) (.cons 1 (.slice 1 (.int .i64)) (.cons 1 (.slice 1 (.int .i64)) (.cons 1 (.slice 1 (.int .i64)) (.cons 1 (.slice 1 (.int .i64)) .nil)))))))) v) : ∃ n, TapesIn w v n := by
  obtain ⟨a, len, cap, e, hl, hm, hn, hall⟩ := h
  simp only [List.cons.injEq, and_true] at e
  subst e
  refine ⟨len, a, cap, rfl, Nat.le_trans hl hm, fun i hi => ?_⟩
  obtain ⟨b, off, cs, ea, _, hc, hcs⟩ := hall i hi
  obtain ⟨_, _, rfl, _, h0, _, _, rfl, _, h1, _, _, rfl, _, h2, _, _, rfl, _, h3, _, _, rfl, _, h4, _, _, rfl, _, h5, rfl⟩ := hcs
  obtain ⟨s0, z0, rfl, l0⟩ := holds_one h0
  obtain ⟨s1, z1, rfl, l1⟩ := holds_one h1
  obtain ⟨s2, z2, rfl, l2⟩ := holds_one h2
  obtain ⟨s3, z3, rfl, l3⟩ := holds_one h3
  obtain ⟨s4, z4, rfl, l4⟩ := holds_one h4
  obtain ⟨s5, z5, rfl, l5⟩ := holds_one h5
  have c0 := hc 0 _ rfl
  rw [Nat.add_zero] at c0
  exact ⟨b, off, s0, s1, s2, s3, s4, s5, ea, c0, hc 1 _ rfl, hc 2 _ rfl, hc 3 _ rfl, hc 4 _ rfl, hc 5 _ rfl, s0, s1, s2, s3, s4, s5, z0, z1, z2, z3, z4, z5, rfl, l0, l1, l2, l3, l4, l5⟩
end Go.Proofs.Ytoijgognbfifbaa
