/-
  Package purse: the walks of Has, In, Out, Put, Take, All, Of.
-/
import Derived.Test.YtpfoimjmnmlnkaaCents
import Derived.Test.YtpfoimjmnmlnkaaPur
namespace Go.Proofs.Ytpfoimjmnmlnkaa
open Go.RowKit

/-- May n go in, where i went in? -/
def mayPut (i n : Int) : Bool := decide (0 ≤ n) && decide (n ≤ 1152921504606846976 - i)
/-- What goes, where n is asked for. -/
def goes (i q n : Int) : Int := max 0 (min n (i - q))
/-- A purse's numbers are right. -/
structure Fit (i q : Int) : Prop where
  q0 : 0 ≤ q
  qi : q ≤ i
  i1 : i ≤ 1152921504606846976

theorem goes_bd {i q n : Int} (h : Fit i q) : 0 ≤ goes i q n ∧ goes i q n ≤ i - q := by
  have := h.q0; have := h.qi
  unfold goes; omega
theorem mayPut_yes {i n : Int} (h : mayPut i n = true) : 0 ≤ n ∧ n ≤ 1152921504606846976 - i := by simpa [mayPut] using h
theorem mayPut_no {i n : Int} (h : mayPut i n = false) : n < 0 ∨ 1152921504606846976 - i < n := by
  simp only [mayPut, Bool.and_eq_false_iff, decide_eq_false_iff_not] at h
  omega

theorem has_any (i q : Int) (h0 : 0 ≤ q) (h1 : q ≤ i) (h2 : i ≤ 1152921504606846976) (w : World) :
    Calls Try.prog 13 #[.agg #[.int .i64 i, .int .i64 q]] w fun e w' => e = .returned (.int .i64 (i - q)) ∧ Below w.heap.size w w' := by
  have hbel : Below w.heap.size w (w.alloc (.cells #[.int .i64 i, .int .i64 q] 25)) := (Below.refl _ _).alloc (Nat.le_refl _) _
  go_enter Try.func13, Try.ntmps13
  go_wp2
  go_ret
  exact ⟨rfl, hbel⟩

theorem in_any (i q : Int) (w : World) :
    Calls Try.prog 18 #[.agg #[.int .i64 i, .int .i64 q]] w fun e w' => e = .returned (.int .i64 i) ∧ Below w.heap.size w w' := by
  have hbel : Below w.heap.size w (w.alloc (.cells #[.int .i64 i, .int .i64 q] 25)) := (Below.refl _ _).alloc (Nat.le_refl _) _
  go_enter Try.func18, Try.ntmps18
  go_wp2
  go_ret
  exact ⟨rfl, hbel⟩

theorem out_any (i q : Int) (w : World) :
    Calls Try.prog 19 #[.agg #[.int .i64 i, .int .i64 q]] w fun e w' => e = .returned (.int .i64 q) ∧ Below w.heap.size w w' := by
  have hbel : Below w.heap.size w (w.alloc (.cells #[.int .i64 i, .int .i64 q] 25)) := (Below.refl _ _).alloc (Nat.le_refl _) _
  go_enter Try.func19, Try.ntmps19
  go_wp2
  go_ret
  exact ⟨rfl, hbel⟩

theorem sum_two (i n : Int) (i0 : 0 ≤ i) (i1 : i ≤ 1152921504606846976) (g cap : Nat) (w : World) (hcap : 2 ≤ cap) (c0 : w.cell? ⟨g, 0, none⟩ = some (.int .i64 i)) (c1 : w.cell? ⟨g, 1, none⟩ = some (.int .i64 n)) :
    Calls Try.prog 26 #[.slice (some ⟨g, 0, none⟩) 2 cap] w fun e w' => e = .returned (.tuple #[.int .i64 (if mayPut i n then i + n else 0), .bool (mayPut i n)]) ∧ w' = w := by
  have h := sum_any (.slice (some ⟨g, 0, none⟩) 2 cap) [i, n] w ⟨_, cap, rfl, hcap, by simp [maxLen], Or.inr ⟨g, 0, rfl, fun k hk => by
    match k, hk with
    | 0, _ => simpa using c0
    | 1, _ => simpa using c1⟩⟩
  refine h.mono ?_
  rintro e w' ⟨rfl, rfl⟩
  refine ⟨?_, rfl⟩
  have e : sumFrom [i, n] 0 = if mayPut i n then some (i + n) else none := by
    unfold sumFrom
    rw [if_neg (by omega)]
    unfold sumFrom
    cases hm : mayPut i n
    · have := mayPut_no hm
      rw [if_pos (by omega)]; rfl
    · have := mayPut_yes hm
      rw [if_neg (by omega)]
      simp [sumFrom]
  rw [e]
  cases mayPut i n <;> rfl

set_option maxHeartbeats 1000000 in
theorem put_yes (b o : Nat) (i q n : Int) (w : World) (i0 : 0 ≤ i) (i1 : i ≤ 1152921504606846976) (h : Pur w b o i q) (hm : mayPut i n = true) :
    Calls Try.prog 21 #[.pointer (some ⟨b, o, none⟩), .int .i64 n] w fun e w' => e = .returned (.bool true) ∧ Chg b o w w' ∧ Pur w' b o (i + n) q := by
  obtain ⟨n0, n1⟩ := mayPut_yes hm
  have hlt := h.lt
  have HP : Hid (Pur w b o i q) := h
  have HM : Hid (mayPut i n = true) := hm
  obtain ⟨c0, c1, f0, f1⟩ := h
  clear hm
  go_enter Try.func21, Try.ntmps21
  go_wp2_with (go_at_call 26; refine (sum_two i n i0 i1 _ _ _ (by omega) (by simp [go_sem]) (by simp [go_sem])).mono ?_; rintro e w' ⟨rfl, rfl⟩; rw [HM.out])
  go_ret
  exact ⟨rfl, (Chg.set0 _ _).then hlt (below_alloc (Below.refl _ _) _), (HP.out.set0 _).then (below_alloc (Below.refl _ _) _)⟩

set_option maxHeartbeats 1000000 in
theorem put_no (b o : Nat) (i q n : Int) (w : World) (i0 : 0 ≤ i) (i1 : i ≤ 1152921504606846976) (h : Pur w b o i q) (hm : mayPut i n = false) :
    Calls Try.prog 21 #[.pointer (some ⟨b, o, none⟩), .int .i64 n] w fun e w' => e = .returned (.bool false) ∧ Below w.heap.size w w' := by
  have hlt := h.lt
  have HM : Hid (mayPut i n = false) := hm
  obtain ⟨c0, c1, f0, f1⟩ := h
  clear hm
  go_enter Try.func21, Try.ntmps21
  go_wp2_with (go_at_call 26; refine (sum_two i n i0 i1 _ _ _ (by omega) (by simp [go_sem]) (by simp [go_sem])).mono ?_; rintro e w' ⟨rfl, rfl⟩; rw [HM.out])
  go_ret
  exact ⟨rfl, below_alloc (Below.refl _ _) _⟩

/-- Put: n went in, or nothing is done. -/
theorem put_any (b o : Nat) (i q n : Int) (w : World) (i0 : 0 ≤ i) (i1 : i ≤ 1152921504606846976) (h : Pur w b o i q) :
    Calls Try.prog 21 #[.pointer (some ⟨b, o, none⟩), .int .i64 n] w fun e w' => e = .returned (.bool (mayPut i n)) ∧ Chg b o w w' ∧ Pur w' b o (if mayPut i n then i + n else i) q := by
  cases hm : mayPut i n
  · refine (put_no b o i q n w i0 i1 h hm).mono ?_
    rintro e w' ⟨rfl, hb⟩
    exact ⟨rfl, .of_below h.lt hb, h.then hb⟩
  · exact put_yes b o i q n w i0 i1 h hm


theorem goes_all {i q : Int} (h : Fit i q) : goes i q (i - q) = i - q := by
  have := h.q0; have := h.qi
  unfold goes; omega
theorem Fit.took {i q : Int} (h : Fit i q) (n : Int) : Fit i (q + goes i q n) := by
  have := goes_bd (n := n) h
  exact ⟨by have := h.q0; omega, by omega, h.i1⟩
theorem Fit.put {i q n : Int} (h : Fit i q) (hm : mayPut i n = true) : Fit (i + n) q := by
  have := mayPut_yes hm
  exact ⟨h.q0, by have := h.qi; omega, by omega⟩
theorem Fit.i0 {i q : Int} (h : Fit i q) : 0 ≤ i := by have := h.q0; have := h.qi; omega


/-- What Of brings in. -/
def ofN (n : Int) : Int := if mayPut 0 n then n else 0
theorem ofN_fit (n : Int) : Fit (ofN n) 0 := by
  unfold ofN
  split
  · have := mayPut_yes (by assumption)
    exact ⟨by omega, by omega, by omega⟩
  · exact ⟨by omega, by omega, by omega⟩
theorem ofN_in {n : Int} (h0 : 0 ≤ n) (h1 : n ≤ 1152921504606846976) : ofN n = n := by
  have : mayPut 0 n = true := by simp [mayPut]; omega
  unfold ofN
  rw [if_pos this]


end Go.Proofs.Ytpfoimjmnmlnkaa
