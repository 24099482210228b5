/-
  Deals turned, the plain part: with one thing beyond its bound a deal is not right; what its sums are.
-/
import Derived.Test.YtamdmicdieeolaaStepsP
namespace Go.Proofs.Ytamdmicdieeolaa
open Go.RowKit

theorem sumFrom_some : ∀ (zs : List Int) (s S : Int), sumFrom zs s = some S → S = s + zs.sum ∧ (∀ z ∈ zs, 0 ≤ z) ∧ (s ≤ 1152921504606846976 → S ≤ 1152921504606846976)
  | [], s, S, h => by
    simp only [sumFrom, Option.some.injEq] at h
    subst h
    simp
  | z :: r, s, S, h => by
    simp only [sumFrom] at h
    split at h
    · cases h
    · rename_i g
      obtain ⟨h1, h2, h3⟩ := sumFrom_some r (s + z) S h
      refine ⟨by rw [h1, List.sum_cons]; omega, fun y hy => ?_, fun _ => h3 (by omega)⟩
      rcases List.mem_cons.1 hy with rfl | hy
      · omega
      · exact h2 y hy
/-- What a right deal's sums are. -/
theorem DealT.ok_sums {d : DealT} (h : d.ok = true) : d.lent = some (d.ls.map LnT.bal).sum ∧ d.issued = some (d.ns.map TrT.og).sum ∧ (∀ x ∈ d.ls, 0 ≤ x.bal) ∧ (∀ x ∈ d.ns, 0 ≤ x.og) ∧ (d.ls.map LnT.bal).sum ≤ 1099511627776 ∧ (d.ns.map TrT.og).sum ≤ (d.ls.map LnT.bal).sum := by
  unfold DealT.ok at h
  simp only [Bool.and_eq_true, decide_eq_true_eq] at h
  obtain ⟨⟨⟨⟨⟨⟨⟨_, _⟩, _⟩, h1⟩, h2⟩, h3⟩, h4⟩, _⟩ := h
  obtain ⟨S, hS⟩ := Option.isSome_iff_exists.1 h1
  obtain ⟨T, hT⟩ := Option.isSome_iff_exists.1 h2
  obtain ⟨a1, a2, _⟩ := sumFrom_some _ 0 S hS
  obtain ⟨b1, b2, _⟩ := sumFrom_some _ 0 T hT
  rw [hS, hT] at h4
  rw [hS] at h3
  simp only [Option.getD_some] at h3 h4
  refine ⟨by rw [hS, a1, Int.zero_add], by rw [hT, b1, Int.zero_add], fun x hx => a2 _ (List.mem_map_of_mem hx), fun x hx => b2 _ (List.mem_map_of_mem hx), by omega, by omega⟩
theorem DealT.ok_lens {d : DealT} (h : d.ok = true) : (1 ≤ d.ls.length ∧ d.ls.length ≤ 64) ∧ (1 ≤ d.ns.length ∧ d.ns.length ≤ 8) := by
  unfold DealT.ok at h
  simp only [Bool.and_eq_true] at h
  have h1 := h.1.1.1.1.1.1.2
  have h2 := h.1.1.1.1.1.2
  unfold loansP at h1
  unfold notesP at h2
  rw [Bool.and_eq_true] at h1 h2
  have a := inL_len h1.1
  have b := inL_len h2.1
  omega
theorem DealT.bad_num {d : DealT} (h : d.t.ok = false) : d.ok = false := by simp [DealT.ok, h]
theorem DealT.bad_loans {d : DealT} (h : loansP d.ls = false) : d.ok = false := by simp [DealT.ok, h]
theorem DealT.bad_notes {d : DealT} (h : notesP d.ns = false) : d.ok = false := by simp [DealT.ok, h]
theorem DealT.bad_lent {d : DealT} (h : d.lent = none) : d.ok = false := by simp [DealT.ok, h]
theorem DealT.bad_modes {d : DealT} (h : stepsP d.s0 = false ∨ stepsP d.s1 = false ∨ stepsP d.s2 = false) : d.ok = false := by
  rcases h with h | h | h <;> simp [DealT.ok, DealT.modes, h]
theorem NumT.bad_yr {t : NumT} (h : 9000 < t.yr) : t.ok = false := by simp [NumT.ok, inL]; omega
theorem NumT.bad_mo {t : NumT} (h : 12 < t.mo) : t.ok = false := by simp [NumT.ok, inL]; omega
theorem NumT.bad_ba {t : NumT} (h : 2 < t.ba) : t.ok = false := by simp [NumT.ok, inL]; omega
theorem NumT.bad_fe {t : NumT} (h : 5000 < t.fe) : t.ok = false := by simp [NumT.ok, inL]; omega
theorem NumT.bad_re {t : NumT} (h : t.re < 0) : t.ok = false := by simp [NumT.ok, inL]; omega
theorem NumT.bad_ta {t : NumT} (h : 10000 < t.ta) : t.ok = false := by simp [NumT.ok, inL]; omega
theorem NumT.bad_ad {t : NumT} (h : 1099511627776 < t.ad) : t.ok = false := by simp [NumT.ok, inL]; omega
theorem NumT.bad_cu {t : NumT} (h : t.cu < 0) : t.ok = false := by simp [NumT.ok, inL]; omega
theorem NumT.bad_t0 {t : NumT} (h : 100000 < t.t0) : t.ok = false := by simp [NumT.ok, inL]; omega
theorem NumT.bad_t4 {t : NumT} (h : t.t4 < 0) : t.ok = false := by simp [NumT.ok, inL]; omega
/-- The first loan's Id is not above 0. -/
theorem bad_id {xs : List LnT} {x : LnT} (h : x.id ≤ 0) (hx : 0 < xs.length) : loansP (xs.set 0 x) = false := by
  match xs, hx with
  | y :: r, _ =>
    unfold loansP
    rw [List.set_cons_zero, idsFrom, decide_eq_false (by omega), Bool.false_and, Bool.and_false]
/-- The first loan's Balance is below 0. -/
theorem bad_bal {xs : List LnT} {x : LnT} (h : x.bal < 0) (hx : 0 < xs.length) : sumFrom ((xs.set 0 x).map LnT.bal) 0 = none := by
  match xs, hx with
  | y :: r, _ =>
    rw [List.set_cons_zero, List.map_cons, sumFrom, if_pos (by omega)]
/-- The first note is none that may be. -/
theorem bad_note {xs : List TrT} {x : TrT} (h : x.ok = false) (hx : 0 < xs.length) : notesP (xs.set 0 x) = false := by
  match xs, hx with
  | y :: r, _ =>
    unfold notesP
    rw [List.set_cons_zero, List.all_cons, h, Bool.false_and, Bool.and_false]
theorem bad_nrank {x : TrT} (h : 7 < x.rk) : x.ok = false := by simp [TrT.ok, rankP, inL]; omega
theorem bad_nrate {x : TrT} (h : x.rt < 0) : x.ok = false := by simp [TrT.ok, inL]; omega
/-- The first note alone is more than all loans. -/
theorem DealT.bad_og {d : DealT} {x : TrT} (h : ∀ L, d.lent = some L → L < x.og) (hx : 0 < d.ns.length) : DealT.ok { d with ns := d.ns.set 0 x } = false := by
  rw [← Bool.not_eq_true]
  intro hk
  obtain ⟨h1, h2, _, h4, h5, h6⟩ := DealT.ok_sums hk
  have h3 := h _ h1
  simp only at h4 h6 h3
  match hn : d.ns, hx with
  | y :: r, _ =>
    rw [hn, List.set_cons_zero] at h6 h4
    rw [List.map_cons, List.sum_cons] at h6
    have h7 : 0 ≤ (r.map TrT.og).sum := by
      have h8 : ∀ z ∈ r.map TrT.og, 0 ≤ z := fun z hz => by
        obtain ⟨u, hu, rfl⟩ := List.mem_map.1 hz
        exact h4 u (by simp [hu])
      clear h4 h6 hn h3 h2 h1 h5 hk
      generalize r.map TrT.og = zs at h8
      induction zs with
      | nil => simp
      | cons z zs ih =>
        rw [List.sum_cons]
        have := h8 z (by simp)
        have := ih (fun u hu => h8 u (by simp [hu]))
        omega
    omega
end Go.Proofs.Ytamdmicdieeolaa
