/-
  Package pool, plain: a loan, what a line does to it, what a tape does to a pool; what it comes to.
-/
import Derived.Test.YtoijgognbfifbaaTapeRight
namespace Go.Proofs.Ytoijgognbfifbaa

/-- A loan of a pool. -/
structure LoanP where
  id : Int
  bal : Int
  lost : Int
  late : Int
  over : Bool
def LoanP.f (x : LoanP) : List Value := [.int .i64 x.id, .int .i64 x.bal, .int .i64 x.lost, .int .i64 x.late, .bool x.over]
theorem LoanP.len (x : LoanP) : x.f.length = 5 := rfl
theorem LoanP.one (x : LoanP) : ∀ u ∈ x.f, u.oneCell' = true := by
  intro u hu
  simp only [LoanP.f, List.mem_cons, List.not_mem_nil, or_false] at hu
  rcases hu with rfl | rfl | rfl | rfl | rfl <;> rfl
/-- What a tape came to. -/
structure AggP where
  pr : Int
  it : Int
  ls : Int
  rc : Int
def AggP.zero : AggP := ⟨0, 0, 0, 0⟩
def AggP.plus (a b : AggP) : AggP := ⟨a.pr + b.pr, a.it + b.it, a.ls + b.ls, a.rc + b.rc⟩

/-- What is left of the balance. -/
def leftP (o : LoanP) (x : LineT) : Int := o.bal - x.pr - x.pp
/-- May this line of an over loan, of one that isn't? -/
def kindP (o : LoanP) (x : LineT) : Bool := if o.over then decide (x.pr = 0 ∧ x.pp = 0 ∧ x.it = 0 ∧ x.lt = 0) && !x.df else x.df || decide (x.rc = 0)
/-- What is lost, the line's Default done. -/
def lostP (o : LoanP) (x : LineT) : Int := if x.df then leftP o x else o.lost
/-- May the line be? -/
def mayP (o : LoanP) (x : LineT) : Bool := kindP o x && decide (x.pr + x.pp ≤ o.bal) && decide (x.rc ≤ lostP o x)
/-- The loan behind the line. -/
def doP (o : LoanP) (x : LineT) : LoanP :=
  let b := if x.df then 0 else leftP o x
  let v := x.df || o.over
  ⟨o.id, b, lostP o x - x.rc, if v || b == 0 then 0 else x.lt, v⟩
/-- What the line comes to. -/
def aggP (o : LoanP) (x : LineT) : AggP := ⟨x.pr + x.pp, x.it, if x.df then leftP o x else 0, x.rc⟩

/-- The loan of an Id: where it lies. -/
def atP (n : Int) : List LoanP → Option Nat
  | [] => none
  | o :: r => if o.id = n then some 0 else (atP n r).map (· + 1)
/-- A tape's lines done, one behind the other. -/
def runP : List LoanP → List LineT → Option (List LoanP × AggP)
  | p, [] => some (p, AggP.zero)
  | p, x :: r => match atP x.id p with
    | none => none
    | some i => match p[i]? with
      | none => none
      | some o => if mayP o x then (runP (p.set i (doP o x)) r).map fun q => (q.1, (aggP o x).plus q.2) else none
/-- Apply. -/
def applyP (p : List LoanP) (l : List LineT) : Option (List LoanP × AggP) := if rightT l then runP p l else none

theorem atP_some {n : Int} : ∀ {p : List LoanP} {i : Nat}, atP n p = some i → ∃ o, p[i]? = some o ∧ o.id = n
  | [], i, h => by simp [atP] at h
  | o :: r, i, h => by
    unfold atP at h
    split at h
    · rename_i e
      injection h with h
      subst h
      exact ⟨o, rfl, e⟩
    · cases hr : atP n r with
      | none => rw [hr] at h; simp at h
      | some j =>
        rw [hr] at h
        simp at h
        subst h
        obtain ⟨o', h1, h2⟩ := atP_some hr
        exact ⟨o', by simpa using h1, h2⟩
theorem atP_none {n : Int} : ∀ {p : List LoanP}, atP n p = none → ∀ o ∈ p, o.id ≠ n
  | [], _ => by simp
  | o :: r, h => by
    unfold atP at h
    split at h
    · simp at h
    · rename_i e
      intro o' ho'
      rcases List.mem_cons.1 ho' with rfl | ho'
      · exact e
      · exact atP_none (by simpa using h) o' ho'

/-- The first one of that Id. -/
theorem atP_first {n : Int} : ∀ {p : List LoanP} {k : Nat} {x : LoanP}, p[k]? = some x → x.id = n → (∀ j o, j < k → p[j]? = some o → o.id ≠ n) → atP n p = some k
  | [], k, x, h, _, _ => by simp at h
  | o :: r, 0, x, h, e, _ => by
    simp at h
    subst h
    rw [atP, if_pos e]
  | o :: r, k + 1, x, h, e, hj => by
    rw [atP, if_neg (hj 0 o (by omega) (by simp)), atP_first (by simpa using h) e (fun j o' hj' ho' => hj (j + 1) o' (by omega) (by simpa using ho'))]
    rfl
theorem atP_no {n : Int} : ∀ {p : List LoanP}, (∀ o ∈ p, o.id ≠ n) → atP n p = none
  | [], _ => rfl
  | o :: r, h => by
    rw [atP, if_neg (h o (by simp)), atP_no (fun o' ho' => h o' (by simp [ho']))]
    rfl

/-- Sums with one element turned. -/
theorem sumBy_set {α : Type} (g : α → Int) : ∀ (xs : List α) (i : Nat) (x y : α), xs[i]? = some x → sumBy g (xs.set i y) = sumBy g xs - g x + g y
  | [], i, x, y, h => by simp at h
  | z :: r, 0, x, y, h => by
    simp at h
    subst h
    simp [sumBy]
    omega
  | z :: r, i + 1, x, y, h => by
    have := sumBy_set g r i x y (by simpa using h)
    simp only [sumBy, List.set_cons_succ, List.map_cons, List.sum_cons] at this ⊢
    omega

/-- A loan that may be: of at most B. -/
structure LoanP.Wf (B : Int) (o : LoanP) : Prop where
  b0 : 0 ≤ o.bal
  b1 : o.bal ≤ B
  l0 : 0 ≤ o.lost
  l1 : o.lost ≤ B
  calm : o.over = false → o.lost = 0
  gone : o.over = true → o.bal = 0
  t0 : 0 ≤ o.late
  t1 : o.late ≤ 12
  still : o.over = true ∨ o.bal = 0 → o.late = 0
theorem mayP_iff {o : LoanP} {x : LineT} (h : mayP o x = true) : kindP o x = true ∧ x.pr + x.pp ≤ o.bal ∧ x.rc ≤ lostP o x := by
  simp only [mayP, Bool.and_eq_true, decide_eq_true_eq] at h
  exact ⟨h.1.1, h.1.2, h.2⟩
theorem kindP_over {o : LoanP} {x : LineT} (h : kindP o x = true) (ho : o.over = true) : x.pr = 0 ∧ x.pp = 0 ∧ x.it = 0 ∧ x.lt = 0 ∧ x.df = false := by
  unfold kindP at h
  rw [if_pos ho] at h
  simp only [Bool.and_eq_true, decide_eq_true_eq, Bool.not_eq_true'] at h
  exact ⟨h.1.1, h.1.2.1, h.1.2.2.1, h.1.2.2.2, h.2⟩
theorem kindP_calm {o : LoanP} {x : LineT} (h : kindP o x = true) (ho : o.over = false) (hd : x.df = false) : x.rc = 0 := by
  unfold kindP at h
  rw [if_neg (by simp [ho]), hd] at h
  simpa using h
theorem doP_wf {B : Int} {o : LoanP} {x : LineT} (h : o.Wf B) (hx : x.ok = true) (hm : mayP o x = true) : (doP o x).Wf B := by
  obtain ⟨hA, t0, t1⟩ := (LineT.ok_iff x).1 hx
  obtain ⟨p0, p1, q0, q1, _, _, r0, r1⟩ := hA
  obtain ⟨b0, b1, l0, l1, hc, hg, _, _, _⟩ := h
  obtain ⟨hk, h1, h2⟩ := mayP_iff hm
  obtain ⟨id, bal, lost, late, over⟩ := o
  obtain ⟨xid, pr, pp, it, rc, lt, df⟩ := x
  simp only [lostP, leftP] at *
  cases over with
  | true =>
    obtain ⟨e1, e2, _, _, e5⟩ := kindP_over hk rfl
    simp only at e1 e2 e5
    subst e1 e2 e5
    have := hg rfl
    simp only [Bool.false_eq_true, if_false] at h2
    exact ⟨by simp [doP, leftP]; omega, by simp [doP, leftP]; omega, by simp [doP, lostP]; omega, by simp [doP, lostP]; omega, by simp [doP], by simp [doP, leftP]; omega, by simp [doP], by simp [doP], by simp [doP]⟩
  | false =>
    have hl := hc rfl
    subst hl
    cases df with
    | true =>
      simp only [if_true] at h2
      exact ⟨by simp [doP], by simp [doP]; omega, by simp [doP, lostP, leftP]; omega, by simp [doP, lostP, leftP]; omega, by simp [doP], by simp [doP], by simp [doP], by simp [doP], by simp [doP]⟩
    | false =>
      have e := kindP_calm hk rfl rfl
      simp only at e
      subst e
      refine ⟨by simp [doP, leftP]; omega, by simp [doP, leftP]; omega, by simp [doP, lostP], by simp [doP, lostP]; omega, by simp [doP, lostP], by simp [doP], ?_, ?_, by simp [doP]; intro h1 h2; exact absurd h1 h2⟩
      · simp only [doP, Bool.false_or]
        split <;> omega
      · simp only [doP, Bool.false_or]
        split <;> omega
theorem all_set {α : Type} {P : α → Prop} {p : List α} {i : Nat} {y : α} (h : ∀ o ∈ p, P o) (hy : P y) : ∀ o ∈ p.set i y, P o := fun o ho => by
  rcases List.mem_or_eq_of_mem_set ho with h' | h'
  · exact h o h'
  · exact h' ▸ hy
theorem mem_at {p : List LoanP} {i : Nat} {o : LoanP} (h : p[i]? = some o) : o ∈ p := by
  obtain ⟨hi, rfl⟩ := List.getElem?_eq_some_iff.1 h
  exact List.getElem_mem hi

/-- P9.4: what a pool has less is principal and losses; what is lost is losses less recoveries. -/
theorem runP_sums (B : Int) : ∀ (l : List LineT) (p q : List LoanP) (a : AggP), (∀ x ∈ l, x.ok = true) → (∀ o ∈ p, o.Wf B) → runP p l = some (q, a) → (∀ o ∈ q, o.Wf B) ∧ sumBy LoanP.bal p - sumBy LoanP.bal q = a.pr + a.ls ∧ sumBy LoanP.lost q - sumBy LoanP.lost p = a.ls - a.rc ∧ q.map LoanP.id = p.map LoanP.id
  | [], p, q, a, _, hw, h => by
    simp [runP] at h
    obtain ⟨rfl, rfl⟩ := h
    refine ⟨hw, ?_⟩
    simp [AggP.zero]
  | x :: r, p, q, a, hx, hw, h => by
    rw [runP] at h
    cases hi : atP x.id p with
    | none => rw [hi] at h; simp at h
    | some i =>
      obtain ⟨o, ho, _⟩ := atP_some hi
      rw [hi] at h
      simp only [ho] at h
      split at h
      · rename_i hmay
        cases hr : runP (p.set i (doP o x)) r with
        | none => rw [hr] at h; simp at h
        | some m =>
          obtain ⟨q', b⟩ := m
          rw [hr] at h
          simp at h
          obtain ⟨rfl, rfl⟩ := h
          have ow := hw o (mem_at ho)
          have xok := hx x (by simp)
          obtain ⟨h0, h1, h2, h3⟩ := runP_sums B r _ _ _ (fun y hy => hx y (by simp [hy])) (all_set hw (doP_wf ow xok hmay)) hr
          rw [sumBy_set LoanP.bal p i o _ ho] at h1
          rw [sumBy_set LoanP.lost p i o _ ho] at h2
          have h4 : (p.set i (doP o x)).map LoanP.id = p.map LoanP.id := by
            rw [List.map_set]
            apply List.ext_getElem?
            intro k
            rw [List.getElem?_set]
            split
            · rename_i e
              subst e
              split
              · simp [ho, doP]
              · rename_i hk
                simp at hk
                simp [hk]
            · rfl
          have e1 : (doP o x).bal = if x.df then 0 else leftP o x := rfl
          have e2 : (doP o x).lost = lostP o x - x.rc := rfl
          rw [e1] at h1
          rw [e2] at h2
          unfold lostP at h2
          unfold AggP.plus aggP
          simp only
          have hl : x.df = true → o.lost = 0 := fun hd => ow.calm (by
            cases ho2 : o.over with
            | false => rfl
            | true =>
              have := (kindP_over (mayP_iff hmay).1 ho2).2.2.2.2
              rw [hd] at this
              cases this)
          refine ⟨h0, ?_, ?_, h3.trans h4⟩
          · split at h1 <;> rename_i hd <;> simp only [hd] <;> simp <;> unfold leftP at * <;> omega
          · split at h2
            · rename_i hd
              have := hl hd
              simp only [hd]
              simp
              unfold leftP at *
              omega
            · rename_i hd
              simp only [hd]
              simp
              omega
      · simp at h

/-- Loans without a line stay. -/
theorem runP_stay : ∀ (l : List LineT) (p q : List LoanP) (a : AggP), runP p l = some (q, a) → ∀ (k : Nat) (o : LoanP), p[k]? = some o → (∀ x ∈ l, x.id ≠ o.id) → q[k]? = some o
  | [], p, q, a, h, k, o, ho, _ => by
    simp [runP] at h
    obtain ⟨rfl, rfl⟩ := h
    exact ho
  | x :: r, p, q, a, h, k, o, ho, hx => by
    rw [runP] at h
    cases hi : atP x.id p with
    | none => rw [hi] at h; simp at h
    | some i =>
      obtain ⟨o', ho', hid⟩ := atP_some hi
      rw [hi] at h
      simp only [ho'] at h
      split at h
      · cases hr : runP (p.set i (doP o' x)) r with
        | none => rw [hr] at h; simp at h
        | some m =>
          obtain ⟨q', b⟩ := m
          rw [hr] at h
          simp at h
          obtain ⟨rfl, rfl⟩ := h
          refine runP_stay r _ _ _ hr k o ?_ (fun y hy => hx y (by simp [hy]))
          have hik : i ≠ k := by
            rintro rfl
            rw [ho] at ho'
            injection ho' with ho'
            subst ho'
            exact hx x (by simp) hid.symm
          rw [List.getElem?_set_ne hik]
          exact ho
      · simp at h

/-- Ids that rise, each greater than the one ahead. -/
def risesP : Int → List LoanP → Prop
  | _, [] => True
  | a, o :: r => a < o.id ∧ risesP o.id r
theorem risesP_low : ∀ (p : List LoanP) (a b : Int), b ≤ a → risesP a p → risesP b p
  | [], _, _, _, _ => trivial
  | o :: _, a, b, h, k => ⟨by have := k.1; omega, k.2⟩
theorem risesP_above : ∀ (p : List LoanP) (a : Int), risesP a p → ∀ o ∈ p, a < o.id
  | [], _, _, _, h => by simp at h
  | o :: r, a, h, o', ho' => by
    rcases List.mem_cons.1 ho' with rfl | ho'
    · exact h.1
    · have := risesP_above r o.id h.2 o' ho'
      have := h.1
      omega
/-- For each loan a line of it, or none. -/
inductive LinesFor : List LoanP → List (Option LineT) → Prop
  | nil : LinesFor [] []
  | skip {o : LoanP} {p : List LoanP} {ls : List (Option LineT)} (h : LinesFor p ls) : LinesFor (o :: p) (none :: ls)
  | line {o : LoanP} {p : List LoanP} {x : LineT} {ls : List (Option LineT)} (hi : x.id = o.id) (hm : mayP o x = true) (hk : x.ok = true) (h : LinesFor p ls) : LinesFor (o :: p) (some x :: ls)
/-- The lines that there are. -/
def theLines (ls : List (Option LineT)) : List LineT := ls.filterMap fun x => x
/-- Each loan behind its line. -/
def stepsP : List LoanP → List (Option LineT) → List LoanP
  | o :: p, none :: ls => o :: stepsP p ls
  | o :: p, some x :: ls => doP o x :: stepsP p ls
  | p, _ => p
theorem rightFrom_ok : ∀ (a : Int) (xs : List LineT), rightFrom a xs = true → ∀ x ∈ xs, x.ok = true
  | _, [], _ => by simp
  | a, y :: r, h => by
    simp only [rightFrom, Bool.and_eq_true] at h
    intro x hx
    rcases List.mem_cons.1 hx with rfl | hx
    · exact h.1.2
    · exact rightFrom_ok y.id r h.2 x hx
theorem rightFrom_low : ∀ (xs : List LineT) (a b : Int), b ≤ a → rightFrom a xs = true → rightFrom b xs = true
  | [], _, _, _, _ => rfl
  | x :: r, a, b, h, k => by
    simp only [rightFrom, Bool.and_eq_true, decide_eq_true_eq] at k ⊢
    exact ⟨⟨by omega, k.1.2⟩, k.2⟩
theorem linesFor_right {p : List LoanP} {ls : List (Option LineT)} (h : LinesFor p ls) : ∀ a, risesP a p → rightFrom a (theLines ls) = true := by
  induction h with
  | nil => intro a _; rfl
  | skip h ih =>
    intro a ha
    exact rightFrom_low _ _ _ (by have := ha.1; omega) (ih _ ha.2)
  | line hi hm hk h ih =>
    intro a ha
    show rightFrom a (_ :: theLines _) = true
    simp only [rightFrom, Bool.and_eq_true, decide_eq_true_eq]
    refine ⟨⟨by rw [hi]; exact ha.1, hk⟩, ?_⟩
    rw [hi]
    exact ih _ ha.2
theorem linesFor_length {p : List LoanP} {ls : List (Option LineT)} (h : LinesFor p ls) : (theLines ls).length ≤ p.length := by
  induction h with
  | nil => simp [theLines]
  | skip h ih => simp [theLines] at ih ⊢; omega
  | line hi hm hk h ih => simp [theLines] at ih ⊢; omega
theorem linesFor_ok {p : List LoanP} {ls : List (Option LineT)} (h : LinesFor p ls) : ∀ x ∈ theLines ls, x.ok = true := by
  induction h with
  | nil => simp [theLines]
  | skip h ih => intro x hx; exact ih x (by simpa [theLines] using hx)
  | line hi hm hk h ih =>
    intro x hx
    simp only [theLines, List.filterMap_cons_some (f := fun x => x) rfl, List.mem_cons] at hx
    rcases hx with rfl | hx
    · exact hk
    · exact ih x hx
theorem atP_behind {n : Int} {o : LoanP} {r : List LoanP} : ∀ d : List LoanP, (∀ y ∈ d, y.id ≠ n) → o.id = n → atP n (d ++ o :: r) = some d.length
  | [], _, h => by simp [atP, h]
  | y :: d, hd, h => by
    have h1 := hd y (by simp)
    rw [List.cons_append, atP, if_neg h1, atP_behind d (fun z hz => hd z (by simp [hz])) h]
    simp
theorem linesFor_run {p : List LoanP} {ls : List (Option LineT)} (h : LinesFor p ls) : ∀ (d : List LoanP) (a : Int), (∀ y ∈ d, y.id ≤ a) → risesP a p → ∃ g, runP (d ++ p) (theLines ls) = some (d ++ stepsP p ls, g) := by
  induction h with
  | nil => intro d a _ _; exact ⟨AggP.zero, by simp [theLines, runP, stepsP]⟩
  | @skip o p ls h ih =>
    intro d a hd ha
    obtain ⟨g, hg⟩ := ih (d ++ [o]) o.id (fun y hy => by
      rcases List.mem_append.1 hy with hy | hy
      · have := hd y hy; have := ha.1; omega
      · simp at hy; subst hy; omega) ha.2
    refine ⟨g, ?_⟩
    simp only [List.append_assoc, List.cons_append, List.nil_append] at hg
    exact hg
  | @line o p x ls hi hm hk h ih =>
    intro d a hd ha
    obtain ⟨g, hg⟩ := ih (d ++ [doP o x]) o.id (fun y hy => by
      rcases List.mem_append.1 hy with hy | hy
      · have := hd y hy; have := ha.1; omega
      · simp at hy; subst hy; exact Int.le_refl _) ha.2
    simp only [List.append_assoc, List.cons_append, List.nil_append] at hg
    refine ⟨(aggP o x).plus g, ?_⟩
    show runP (d ++ o :: p) (x :: theLines ls) = _
    rw [runP, atP_behind d (fun y hy e => by have := hd y hy; have := ha.1; omega) hi.symm]
    have e1 : (d ++ o :: p)[d.length]? = some o := by simp
    have e2 : (d ++ o :: p).set d.length (doP o x) = d ++ doP o x :: p := by simp
    simp only [e1, e2, hm, if_true, hg]
    rfl
/-- A tape that has for each loan a line that may be, or none, may be. -/
theorem linesFor_apply {p : List LoanP} {ls : List (Option LineT)} (h : LinesFor p ls) (hp : p.length ≤ 64) (hr : risesP 0 p) : ∃ g, applyP p (theLines ls) = some (stepsP p ls, g) := by
  obtain ⟨g, hg⟩ := linesFor_run h [] 0 (by simp) hr
  refine ⟨g, ?_⟩
  have : rightT (theLines ls) = true := by
    unfold rightT
    rw [linesFor_right h 0 hr, decide_eq_true (by have := linesFor_length h; omega)]
    rfl
  unfold applyP
  rw [if_pos this]
  exact hg
end Go.Proofs.Ytoijgognbfifbaa
