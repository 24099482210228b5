/-
  Package tape: lines, totals and new variables as facts that bear what comes behind; contracts with what follows.
-/
import Derived.Test.YtibakfhalabdaaaKeep
import Derived.Test.YtibakfhalabdaaaOrd
namespace Go.Proofs.Ytibakfhalabdaaa
open Go.RowKit

theorem TotT.Bd.plus {t o : TotT} {B C : Int} (h : t.Bd B) (k : o.Bd C) : (t.plus o).Bd (B + C) := by
  obtain ⟨t1, t2, t3, t4, t5, t6, t7, t8, t9, t10⟩ := h
  obtain ⟨s1, s2, s3, s4, s5, s6, s7, s8, s9, s10⟩ := k
  unfold TotT.plus
  exact ⟨by simp only; omega, by simp only; omega, by simp only; omega, by simp only; omega, by simp only; omega, by simp only; omega, by simp only; omega, by simp only; omega, by simp only; omega, by simp only; omega⟩
theorem TotT.Bd.mono {t : TotT} {B C : Int} (h : t.Bd B) (k : B ≤ C) : t.Bd C := by
  obtain ⟨t1, t2, t3, t4, t5, t6, t7, t8, t9, t10⟩ := h
  exact ⟨t1, by omega, t3, by omega, t5, by omega, t7, by omega, t9, by omega⟩
theorem TotT.plus_comm (s t : TotT) : s.plus t = t.plus s := TotT.ext (Int.add_comm _ _) (Int.add_comm _ _) (Int.add_comm _ _) (Int.add_comm _ _) (Int.add_comm _ _)
theorem TotT.plus_assoc (s t u : TotT) : (s.plus t).plus u = s.plus (t.plus u) := TotT.ext (Int.add_assoc _ _ _) (Int.add_assoc _ _ _) (Int.add_assoc _ _ _) (Int.add_assoc _ _ _) (Int.add_assoc _ _ _)
theorem TotT.plus_zero (s : TotT) : s.plus TotT.zero = s := TotT.ext (Int.add_zero _) (Int.add_zero _) (Int.add_zero _) (Int.add_zero _) (Int.add_zero _)
theorem TotT.zero_bd : TotT.zero.Bd 0 := ⟨by decide, by decide, by decide, by decide, by decide, by decide, by decide, by decide, by decide, by decide⟩
theorem TotT.cash_plus (s t : TotT) : (s.plus t).cash = s.cash + t.cash := by
  unfold TotT.cash TotT.plus
  simp only
  omega
theorem TotT.Bd.cash {t : TotT} {B : Int} (h : t.Bd B) : 0 ≤ t.cash ∧ t.cash ≤ 4 * B := by
  obtain ⟨t1, t2, t3, t4, t5, t6, t7, t8, t9, t10⟩ := h
  unfold TotT.cash
  omega
/-- Plus, its outcome as a letter, with what follows. -/
theorem tplus_k {t o s : TotT} {B C : Int} (e : t.plus o = s) (ht : t.Bd B) (ho : o.Bd C) (hb : B + C ≤ 9223372036854775807) : ∀ (w : World) (R : Ending → World → Prop), (∀ w', Below w.heap.size w w' → R (.returned (.agg #[.int .i64 s.p, .int .i64 s.q, .int .i64 s.i, .int .i64 s.r, .int .i64 s.d])) w') → Calls Try.prog 12 #[(.agg #[.int .i64 t.p, .int .i64 t.q, .int .i64 t.i, .int .i64 t.r, .int .i64 t.d]), (.agg #[.int .i64 o.p, .int .i64 o.q, .int .i64 o.i, .int .i64 o.r, .int .i64 o.d])] w R := fun w R k =>
  (tplus_any t o B C ht ho hb w).mono fun e1 w' ⟨e2, b⟩ => by
    rw [e] at e2
    exact e2 ▸ k w' b
/-- Cash, the same. -/
theorem cash_k {t : TotT} {c : Int} (e : t.cash = c) (ht : t.Bd 2305843009213693951) : ∀ (w : World) (R : Ending → World → Prop), (∀ w', Below w.heap.size w w' → R (.returned (.int .i64 c)) w') → Calls Try.prog 9 #[(.agg #[.int .i64 t.p, .int .i64 t.q, .int .i64 t.i, .int .i64 t.r, .int .i64 t.d])] w R := fun w R k =>
  (cash_any t ht w).mono fun e1 w' ⟨e2, b⟩ => by
    rw [e] at e2
    exact e2 ▸ k w' b
/-- Right lines' amounts. -/
theorem rightFrom_am : ∀ (a : Int) (xs : List LineT), rightFrom a xs = true → ∀ x ∈ xs, x.Am
  | _, [], _ => by simp
  | a, y :: r, h => by
    simp only [rightFrom, Bool.and_eq_true] at h
    intro x hx
    rcases List.mem_cons.1 hx with rfl | hx
    · exact ((LineT.ok_iff _).1 h.1.2).1
    · exact rightFrom_am y.id r h.2 x hx
/-- Lines of at most twelve, each right. -/
def LinesF (v : Value) (w : World) : Prop := ∃ xs, Lies 7 LineT.f w v xs ∧ (∀ x ∈ xs, x.Am) ∧ xs.length ≤ 12
theorem linesF_bears : Bears LinesF := fun _ _ _ ⟨xs, h, k⟩ b => ⟨xs, h.below b, k⟩
/-- A total of such. -/
def SumF (v : Value) (_ : World) : Prop := ∃ t : TotT, t.Bd 13194139533312 ∧ v = t.v
/-- A new variable of a total. -/
def NewF (N : Nat) (v : Value) (w : World) : Prop := ∃ g, v = .pointer (some ⟨g, 0, none⟩) ∧ N ≤ g ∧ Blk w g 26 TotT.zero.f
theorem newF_bears (N : Nat) : Bears (NewF N) := fun _ _ _ ⟨g, e, h, k⟩ b => ⟨g, e, h, k.then b⟩
theorem newF_ne {N : Nat} {v : Value} {w : World} (h : NewF N v w) : v ≠ .pointer (some ⟨w.heap.size, 0, none⟩) := by
  obtain ⟨g, rfl, _, k⟩ := h
  have := k.lt
  intro e
  injection e with e
  injection e with e
  injection e with e
  omega
theorem lines_f (v : Value) (w : World) (h : TapeIn w v) :
    Calls Try.prog 10 #[v] w fun e w' => ∃ u, e = .returned u ∧ Below w.heap.size w w' ∧ LinesF u w' := by
  refine (lines_any v w h).mono ?_
  rintro e w' ⟨v', xs, rfl, hl, hr, ho, b⟩
  exact ⟨v', rfl, b, xs, own_lies LineT.len ho rfl, rightFrom_am 0 xs hr, hl⟩
theorem tsum_f (v : Value) (w : World) (h : LinesF v w) :
    Calls Try.prog 7 #[v] w fun e w' => ∃ u, e = .returned u ∧ Below w.heap.size w w' ∧ SumF u w' := by
  obtain ⟨xs, hl, ha, hn⟩ := h
  refine (tsum_any v xs w hl ha (by omega)).mono ?_
  rintro e w' ⟨rfl, b⟩
  exact ⟨_, rfl, b, sumT xs, sumT_bd ha 12 hn, rfl⟩

/-- The same, with what follows. -/
theorem lines_k {v : Value} {w : World} {R : Ending → World → Prop} (h : TapeIn w v) (k : ∀ u w', Below w.heap.size w w' → LinesF u w' → R (.returned u) w') : Calls Try.prog 10 #[v] w R := (lines_f v w h).mono fun _ w' ⟨u, e1, b, f⟩ => e1 ▸ k u w' b f
theorem tsum_k {v : Value} {w : World} {R : Ending → World → Prop} (h : LinesF v w) (k : ∀ u w', Below w.heap.size w w' → SumF u w' → R (.returned u) w') : Calls Try.prog 7 #[v] w R := (tsum_f v w h).mono fun _ w' ⟨u, e1, b, f⟩ => e1 ▸ k u w' b f
end Go.Proofs.Ytibakfhalabdaaa
