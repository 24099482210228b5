/-
  The document's own Right of a deal, the plain part: its sums made on the way say the same as the deal's sums.
-/
import Derived.Test.YtamdmicdieeolaaTurnP
namespace Go.Proofs.Ytamdmicdieeolaa
open Go.RowKit

def loansF : Int → Int → List LnT → Option Int
  | _, P, [] => some P
  | a, P, x :: r => if a < x.id ∧ 0 ≤ x.bal ∧ x.bal ≤ 1099511627776 - P then loansF x.id (P + x.bal) r else none
def noteF (P : Int) (x : TrT) : Bool := decide (0 ≤ x.rk ∧ x.rk < 8 ∧ 1 ≤ x.og ∧ x.og ≤ P ∧ 0 ≤ x.rt ∧ x.rt ≤ 5000)
def notesF : Int → List TrT → Bool
  | _, [] => true
  | P, x :: r => noteF P x && notesF (P - x.og) r
def NumT.plain (t : NumT) : Bool := decide (1 ≤ t.yr ∧ t.yr ≤ 9000 ∧ 1 ≤ t.mo ∧ t.mo ≤ 12 ∧ 0 ≤ t.ba ∧ t.ba ≤ 2 ∧ 0 ≤ t.fe ∧ t.fe ≤ 5000 ∧ 0 ≤ t.re ∧ t.re ≤ 1099511627776 ∧ 0 ≤ t.ta ∧ t.ta ≤ 10000 ∧ 0 ≤ t.ad ∧ t.ad ≤ 1099511627776 ∧ 0 ≤ t.cu ∧ t.cu ≤ 600)
def NumT.tests (t : NumT) : List Int := [t.t0, t.t1, t.t2, t.t3, t.t4]
def lensF (a b : Nat) : Bool := decide (1 ≤ a ∧ a ≤ 64 ∧ 1 ≤ b ∧ b ≤ 8)
def restF (o : Option Int) (d : DealT) : Bool := match o with
  | none => false
  | some P => notesF P d.ns && d.from 0
def DealT.ref (d : DealT) : Bool := d.t.plain && (inL 0 100000 d.t.tests && (lensF d.ls.length d.ns.length && restF (loansF 0 0 d.ls) d))
theorem sum_nonneg : ∀ (zs : List Int), (∀ z ∈ zs, 0 ≤ z) → 0 ≤ zs.sum
  | [], _ => by simp
  | z :: r, h => by
    have := sum_nonneg r (fun y hy => h y (by simp [hy]))
    have := h z (by simp)
    rw [List.sum_cons]
    omega
theorem loansF_iff : ∀ (xs : List LnT) (a P Q : Int), P ≤ 1099511627776 → (loansF a P xs = some Q ↔ idsFrom a xs = true ∧ (∀ x ∈ xs, 0 ≤ x.bal) ∧ P + (xs.map LnT.bal).sum = Q ∧ Q ≤ 1099511627776)
  | [], a, P, Q, hP => by
    simp only [loansF, idsFrom, List.map_nil, List.sum_nil, Option.some.injEq, List.not_mem_nil]
    exact ⟨fun h => ⟨trivial, fun _ h => by simp at h, by omega, by omega⟩, fun h => by omega⟩
  | x :: r, a, P, Q, hP => by
    rw [loansF, idsFrom, List.map_cons, List.sum_cons, Bool.and_eq_true, decide_eq_true_eq]
    split
    · rename_i g
      rw [loansF_iff r x.id (P + x.bal) Q (by omega)]
      constructor
      · rintro ⟨h1, h2, h3, h4⟩
        refine ⟨⟨g.1, h1⟩, fun y hy => ?_, by omega, h4⟩
        rcases List.mem_cons.1 hy with rfl | hy
        · exact g.2.1
        · exact h2 y hy
      · rintro ⟨⟨_, h1⟩, h2, h3, h4⟩
        exact ⟨h1, fun y hy => h2 y (by simp [hy]), by omega, h4⟩
    · rename_i g
      constructor
      · intro h
        cases h
      · rintro ⟨⟨h0, h1⟩, h2, h3, h4⟩
        have := h2 x (by simp)
        have := sum_nonneg (r.map LnT.bal) (fun z hz => by
          obtain ⟨y, hy, rfl⟩ := List.mem_map.1 hz
          exact h2 y (by simp [hy]))
        exact absurd ⟨h0, by omega, by omega⟩ g
theorem sumFrom_iff : ∀ (zs : List Int) (s S : Int), s ≤ 1152921504606846976 → (sumFrom zs s = some S ↔ (∀ z ∈ zs, 0 ≤ z) ∧ s + zs.sum = S ∧ S ≤ 1152921504606846976)
  | [], s, S, hs => by
    simp only [sumFrom, List.sum_nil, Option.some.injEq, List.not_mem_nil]
    exact ⟨fun h => ⟨fun _ h => by simp at h, by omega, by omega⟩, fun h => by omega⟩
  | z :: r, s, S, hs => by
    rw [sumFrom, List.sum_cons]
    split
    · rename_i g
      constructor
      · intro h
        cases h
      · rintro ⟨h1, h2, h3⟩
        have := h1 z (by simp)
        have := sum_nonneg r (fun y hy => h1 y (by simp [hy]))
        omega
    · rename_i g
      rw [sumFrom_iff r (s + z) S (by omega)]
      constructor
      · rintro ⟨h1, h2, h3⟩
        refine ⟨fun y hy => ?_, by omega, h3⟩
        rcases List.mem_cons.1 hy with rfl | hy
        · omega
        · exact h1 y hy
      · rintro ⟨h1, h2, h3⟩
        exact ⟨fun y hy => h1 y (by simp [hy]), by omega, h3⟩
theorem TrT.ok_iff (x : TrT) : x.ok = true ↔ 1 ≤ x.og ∧ 0 ≤ x.rk ∧ x.rk < 8 ∧ 0 ≤ x.rt ∧ x.rt ≤ 5000 := by
  simp only [TrT.ok, rankP, inL_one, Bool.and_eq_true, decide_eq_true_eq, Bool.not_eq_true', decide_eq_false_iff_not]
  omega
theorem notesF_iff : ∀ (xs : List TrT) (P : Int), 0 ≤ P → (notesF P xs = true ↔ xs.all TrT.ok = true ∧ (xs.map TrT.og).sum ≤ P)
  | [], P, hP => by simp [notesF, hP]
  | x :: r, P, hP => by
    rw [notesF, Bool.and_eq_true, List.all_cons, Bool.and_eq_true, List.map_cons, List.sum_cons, noteF, decide_eq_true_eq, TrT.ok_iff]
    constructor
    · rintro ⟨h1, h2⟩
      rw [notesF_iff r (P - x.og) (by omega)] at h2
      exact ⟨⟨by omega, h2.1⟩, by omega⟩
    · rintro ⟨⟨h1, h2⟩, h3⟩
      have := sum_nonneg (r.map TrT.og) (fun z hz => by
        obtain ⟨y, hy, rfl⟩ := List.mem_map.1 hz
        have := (TrT.ok_iff y).1 (List.all_eq_true.1 h2 y hy)
        omega)
      exact ⟨by omega, (notesF_iff r (P - x.og) (by omega)).2 ⟨h2, by omega⟩⟩
theorem NumT.ok_iff (t : NumT) : t.ok = true ↔ t.plain = true ∧ inL 0 100000 t.tests = true := by
  simp only [NumT.ok, NumT.plain, NumT.tests, Bool.and_eq_true, inL, List.all_cons, List.all_nil, Bool.and_true, decide_eq_true_eq]
  constructor
  · rintro ⟨⟨⟨⟨⟨⟨⟨h1, h2⟩, h3⟩, h4⟩, h5⟩, h6, h7⟩, h8⟩, h9⟩
    exact ⟨⟨h1.1, h1.2, h2.1, h2.2, h3.1, h3.2, h4.1, h4.2, h6.1, h6.2, h5.1, h5.2, h7.1, h7.2, h8.1, h8.2⟩, h9⟩
  · rintro ⟨⟨a1, a2, a3, a4, a5, a6, a7, a8, a9, a10, a11, a12, a13, a14, a15, a16⟩, h9⟩
    exact ⟨⟨⟨⟨⟨⟨⟨⟨a1, a2⟩, a3, a4⟩, a5, a6⟩, a7, a8⟩, a11, a12⟩, ⟨a9, a10⟩, a13, a14⟩, a15, a16⟩, h9⟩
theorem lens_iff (a b : Nat) : lensF a b = true ↔ inL 1 64 [(a : Int)] = true ∧ inL 1 8 [(b : Int)] = true := by
  simp only [lensF, inL_one, Bool.and_eq_true, decide_eq_true_eq]
  omega
/-- The document's own answer is the deal's. -/
theorem DealT.ref_ok (d : DealT) : d.ref = d.ok := by
  rw [Bool.eq_iff_iff]
  unfold DealT.ref DealT.ok loansP notesP
  simp only [Bool.and_eq_true, decide_eq_true_eq, NumT.ok_iff, lens_iff]
  constructor
  · rintro ⟨h1, h2, ⟨h3, h4⟩, h5⟩
    cases e : loansF 0 0 d.ls with
    | none => rw [e] at h5; cases h5
    | some P =>
      rw [e] at h5
      simp only [restF, Bool.and_eq_true, d.from_all] at h5
      obtain ⟨a1, a2, a3, a4⟩ := (loansF_iff d.ls 0 0 P (by omega)).1 e
      have hn : ∀ z ∈ d.ls.map LnT.bal, 0 ≤ z := fun z hz => by
        obtain ⟨y, hy, rfl⟩ := List.mem_map.1 hz
        exact a2 y hy
      have hP : 0 ≤ P := by have := sum_nonneg _ hn; omega
      obtain ⟨b1, b2⟩ := (notesF_iff d.ns P hP).1 h5.1
      have c1 : d.lent = some P := (sumFrom_iff _ 0 P (by omega)).2 ⟨hn, by omega, by omega⟩
      have c2 : d.issued = some (d.ns.map TrT.og).sum := (sumFrom_iff _ 0 _ (by omega)).2 ⟨fun z hz => by
        obtain ⟨y, hy, rfl⟩ := List.mem_map.1 hz
        have := (TrT.ok_iff y).1 (List.all_eq_true.1 b1 y hy)
        omega, by omega, by omega⟩
      rw [c1, c2]
      exact ⟨⟨⟨⟨⟨⟨⟨⟨h1, h2⟩, h3, a1⟩, h4, b1⟩, rfl⟩, rfl⟩, a4⟩, b2⟩, h5.2⟩
  · rintro ⟨⟨⟨⟨⟨⟨⟨⟨h1, h2⟩, h3, a1⟩, h4, b1⟩, i1⟩, i2⟩, a4⟩, b2⟩, h5⟩
    obtain ⟨P, c1⟩ := Option.isSome_iff_exists.1 i1
    obtain ⟨R, c2⟩ := Option.isSome_iff_exists.1 i2
    rw [c1] at a4 b2
    rw [c2] at b2
    simp only [Option.getD_some] at a4 b2
    obtain ⟨e1, e2, _⟩ := (sumFrom_iff _ 0 P (by omega)).1 c1
    obtain ⟨e3, e4, _⟩ := (sumFrom_iff _ 0 R (by omega)).1 c2
    have e : loansF 0 0 d.ls = some P := (loansF_iff d.ls 0 0 P (by omega)).2 ⟨a1, fun x hx => e1 _ (List.mem_map_of_mem hx), e2, a4⟩
    have hP : 0 ≤ P := by have := sum_nonneg _ e1; omega
    rw [e]
    simp only [restF, Bool.and_eq_true, d.from_all]
    exact ⟨h1, h2, ⟨h3, h4⟩, (notesF_iff d.ns P hP).2 ⟨b1, by omega⟩, h5⟩
theorem loansF_at (xs : List LnT) (k : Nat) (x : LnT) (h : xs[k]? = some x) (a P : Int) : loansF a P (xs.drop k) = if a < x.id ∧ 0 ≤ x.bal ∧ x.bal ≤ 1099511627776 - P then loansF x.id (P + x.bal) (xs.drop (k + 1)) else none := by
  obtain ⟨hk, rfl⟩ := List.getElem?_eq_some_iff.1 h
  rw [List.drop_eq_getElem_cons hk]
  rfl
theorem notesF_at (xs : List TrT) (k : Nat) (x : TrT) (h : xs[k]? = some x) (P : Int) : notesF P (xs.drop k) = (noteF P x && notesF (P - x.og) (xs.drop (k + 1))) := by
  obtain ⟨hk, rfl⟩ := List.getElem?_eq_some_iff.1 h
  rw [List.drop_eq_getElem_cons hk]
  rfl
theorem StT.ok_iff (x : StT) : x.ok = true ↔ 1 ≤ x.kd ∧ x.kd ≤ 7 ∧ (x.kd = 3 ∨ x.rk = 0) ∧ 0 ≤ x.rk ∧ x.rk < 8 := by
  unfold StT.ok
  split
  · rename_i g
    simp only [rankP, inL_one, Bool.and_eq_true, decide_eq_true_eq]
    omega
  · rename_i g
    simp only [inL_one, Bool.and_eq_true, decide_eq_true_eq]
    omega
end Go.Proofs.Ytamdmicdieeolaa
