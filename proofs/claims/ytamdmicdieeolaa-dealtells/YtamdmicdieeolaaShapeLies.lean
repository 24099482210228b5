/-
  A slice that came in, of whatever shape its elements are, as a list.
-/
import Derived.Test.YtamdmicdieeolaaShape
import Derived.Test.YtamdmicdieeolaaLies
namespace Go.Proofs.Ytamdmicdieeolaa
open Go.RowKit

theorem holds_list {α : Type} {w : World} {m : Nat} {s : Sh} {v : Value} (f : α → List Value) (Q : α → Prop) (hs : ∀ cs, Holds w s cs → ∃ x, cs = f x ∧ Q x) (h : Holds w (.slice m s) [v]) :
    ∃ xs : List α, Lies m f w v xs ∧ ∀ x ∈ xs, Q x := by
  obtain ⟨a, len, cap, e, hl, hm, hn, _, hall⟩ := h
  simp only [List.cons.injEq, and_true] at e
  subst e
  have each : ∀ n, n ≤ len → ∃ xs : List α, xs.length = n ∧ ∀ (i : Nat) (x : α), xs[i]? = some x → Q x ∧ ∃ b off, a = some ⟨b, off, none⟩ ∧ ∀ (j : Nat) (u : Value), (f x)[j]? = some u → w.cell? ⟨b, off + i * m + j, none⟩ = some u := by
    intro n
    induction n with
    | zero => exact fun _ => ⟨[], rfl, fun i x h => by simp at h⟩
    | succ n ih =>
      intro hn
      obtain ⟨xs, hx, hi⟩ := ih (by omega)
      obtain ⟨b, off, cs, ha, _, hc, hh⟩ := hall n (by omega)
      obtain ⟨x, rfl, hq⟩ := hs cs hh
      refine ⟨xs ++ [x], by simp [hx], fun i y hy => ?_⟩
      rcases Nat.lt_or_ge i xs.length with h | h
      · rw [List.getElem?_append_left h] at hy
        exact hi i y hy
      · rw [List.getElem?_append_right h] at hy
        have z : i - xs.length = 0 := by
          rcases Nat.eq_zero_or_pos (i - xs.length) with z | z
          · exact z
          · rw [List.getElem?_eq_none (by simp; omega)] at hy; simp at hy
        rw [z] at hy
        simp at hy
        subst hy
        have : i = n := by omega
        subst this
        exact ⟨hq, b, off, ha, hc⟩
  obtain ⟨xs, hx, hi⟩ := each len (Nat.le_refl _)
  refine ⟨xs, ⟨a, cap, by rw [hx], by omega, hm, hn, ?_⟩, fun x hx => ?_⟩
  · match xs, hi with
    | [], _ => exact Or.inl rfl
    | y :: r, hi =>
      obtain ⟨_, b, off, ha, _⟩ := hi 0 y (by simp)
      refine Or.inr ⟨b, off, ha, fun i x hx => ?_⟩
      obtain ⟨_, b', off', ha', hc⟩ := hi i x hx
      rw [ha] at ha'
      simp only [Option.some.injEq, Addr.mk.injEq] at ha'
      obtain ⟨rfl, rfl, _⟩ := ha'
      exact hc
  · obtain ⟨i, h, rfl⟩ := List.getElem_of_mem hx
    exact (hi i _ (List.getElem?_eq_getElem h)).1

/-- An element that is a number. -/
def intF (z : Int) : List Value := [.int .i64 z]
/-- An int of Go's. -/
def I64 (z : Int) : Prop := -9223372036854775808 ≤ z ∧ z ≤ 9223372036854775807
theorem i64_of {z : Int} (h : (Lit.int .i64 z).wf = true) : I64 z := Go.bounds_i64 h

theorem arg_int {w : World} {v : Value} (h : Arg w (.int .i64) v) : ∃ n, v = .int .i64 n ∧ I64 n := by
  obtain ⟨n, e, hw⟩ := h
  simp only [List.cons.injEq, and_true] at e
  exact ⟨n, e, i64_of hw⟩
theorem arg_bool {w : World} {v : Value} (h : Arg w .bool v) : ∃ b, v = .bool b := by
  obtain ⟨n, e⟩ := h
  simp only [List.cons.injEq, and_true] at e
  exact ⟨n, e⟩
theorem arg_ints {w : World} {v : Value} (h : Arg w (.slice 1 (.int .i64)) v) : ∃ zs : List Int, Lies 1 intF w v zs ∧ ∀ z ∈ zs, I64 z :=
  holds_list intF I64 (fun cs hc => by obtain ⟨n, rfl, hw⟩ := hc; exact ⟨n, rfl, i64_of hw⟩) h
/-- A struct's fields, one by one. -/
theorem holds_int {w : World} {cs : List Value} (h : Holds w (.int .i64) cs) : ∃ n, cs = [.int .i64 n] ∧ I64 n := by
  obtain ⟨n, e, hw⟩ := h
  exact ⟨n, e, i64_of hw⟩
theorem holds_ints2 {w : World} {cs : List Value} (h : Holds w (.struct (.cons 1 (.int .i64) (.cons 1 (.int .i64) .nil))) cs) : ∃ a b, cs = [.int .i64 a, .int .i64 b] ∧ I64 a ∧ I64 b := by
  obtain ⟨_, _, rfl, _, ⟨a, rfl, ha⟩, _, _, rfl, _, ⟨b, rfl, hb⟩, rfl⟩ := h
  exact ⟨a, b, rfl, i64_of ha, i64_of hb⟩
theorem holds_ints3 {w : World} {cs : List Value} (h : Holds w (.struct (.cons 1 (.int .i64) (.cons 1 (.int .i64) (.cons 1 (.int .i64) .nil)))) cs) : ∃ a b c, cs = [.int .i64 a, .int .i64 b, .int .i64 c] ∧ I64 a ∧ I64 b ∧ I64 c := by
  obtain ⟨_, _, rfl, _, ⟨a, rfl, ha⟩, _, _, rfl, _, ⟨b, rfl, hb⟩, _, _, rfl, _, ⟨c, rfl, hc⟩, rfl⟩ := h
  exact ⟨a, b, c, rfl, i64_of ha, i64_of hb, i64_of hc⟩
end Go.Proofs.Ytamdmicdieeolaa
