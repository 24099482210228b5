/-
  A deal as an argument.
-/
import Derived.Test.YtamdmicdieeolaaDealArg
namespace Go.Proofs.Ytamdmicdieeolaa
open Go.RowKit

theorem holds_lns {w : World} {c : List Value} (h : Holds w (.slice 2 (.struct (.cons 1 (.int .i64) (.cons 1 (.int .i64) .nil)))) c) : ∃ s xs, c = [s] ∧ Lies 2 LnT.f w s xs := by
  obtain ⟨a, len, cap, rfl, h'⟩ := id h
  obtain ⟨xs, hx, _⟩ := holds_list (v := .slice a len cap) LnT.f (fun _ => True) (fun cs hc => by obtain ⟨a, b, rfl, _⟩ := holds_ints2 hc; exact ⟨⟨a, b⟩, rfl, trivial⟩) h
  exact ⟨_, xs, rfl, hx⟩
theorem holds_sts {w : World} {c : List Value} (h : Holds w (.slice 2 (.struct (.cons 1 (.int .i64) (.cons 1 (.int .i64) .nil)))) c) : ∃ s xs, c = [s] ∧ Lies 2 StT.f w s xs := by
  obtain ⟨a, len, cap, rfl, h'⟩ := id h
  obtain ⟨xs, hx, _⟩ := holds_list (v := .slice a len cap) StT.f (fun _ => True) (fun cs hc => by obtain ⟨a, b, rfl, _⟩ := holds_ints2 hc; exact ⟨⟨a, b⟩, rfl, trivial⟩) h
  exact ⟨_, xs, rfl, hx⟩
theorem holds_trs {w : World} {c : List Value} (h : Holds w (.slice 3 (.struct (.cons 1 (.int .i64) (.cons 1 (.int .i64) (.cons 1 (.int .i64) .nil))))) c) : ∃ s xs, c = [s] ∧ Lies 3 TrT.f w s xs := by
  obtain ⟨a, len, cap, rfl, h'⟩ := id h
  obtain ⟨xs, hx, _⟩ := holds_list (v := .slice a len cap) TrT.f (fun _ => True) (fun cs hc => by obtain ⟨a, b, c, rfl, _⟩ := holds_ints3 hc; exact ⟨⟨a, b, c⟩, rfl, trivial⟩) h
  exact ⟨_, xs, rfl, hx⟩
theorem arg_sts {w : World} {v : Value} (h : Arg w (.slice 2 (.struct (.cons 1 (.int .i64) (.cons 1 (.int .i64) .nil)))) v) : ∃ xs, Lies 2 StT.f w v xs := by
  obtain ⟨s, xs, e, hx⟩ := holds_sts h
  simp only [List.cons.injEq, and_true] at e
  subst e
  exact ⟨xs, hx⟩
theorem holds_tests5 {w : World} {c : List Value} (h : Holds w (.struct (.cons 1 (.int .i64) (.cons 1 (.int .i64) (.cons 1 (.int .i64) (.cons 1 (.int .i64) (.cons 1 (.int .i64) .nil)))))) c) : ∃ a b d e f, c = [.int .i64 a, .int .i64 b, .int .i64 d, .int .i64 e, .int .i64 f] := by
  obtain ⟨_, _, rfl, _, ⟨a, rfl, _⟩, _, _, rfl, _, ⟨b, rfl, _⟩, _, _, rfl, _, ⟨d, rfl, _⟩, _, _, rfl, _, ⟨e, rfl, _⟩, _, _, rfl, _, ⟨f, rfl, _⟩, rfl⟩ := h
  exact ⟨a, b, d, e, f, rfl⟩
theorem holds_lists {w : World} {c : List Value} (h : Holds w (.arr (.cons 1 (.slice 2 (.struct (.cons 1 (.int .i64) (.cons 1 (.int .i64) .nil)))) (.cons 1 (.slice 2 (.struct (.cons 1 (.int .i64) (.cons 1 (.int .i64) .nil)))) (.cons 1 (.slice 2 (.struct (.cons 1 (.int .i64) (.cons 1 (.int .i64) .nil)))) .nil)))) c) : ∃ x y z zx zy zz, c = [x, y, z] ∧ Lies 2 StT.f w x zx ∧ Lies 2 StT.f w y zy ∧ Lies 2 StT.f w z zz := by
  obtain ⟨_, _, rfl, _, h0, _, _, rfl, _, h1, _, _, rfl, _, h2, rfl⟩ := h
  obtain ⟨x, zx, rfl, lx⟩ := holds_sts h0
  obtain ⟨y, zy, rfl, ly⟩ := holds_sts h1
  obtain ⟨z, zz, rfl, lz⟩ := holds_sts h2
  exact ⟨x, y, z, zx, zy, zz, rfl, lx, ly, lz⟩
theorem arg_deal {w : World} {v : Value} (h : Arg w (.struct (.cons 1 (.int .i64) (.cons 1 (.int .i64) (.cons 1 (.int .i64) (.cons 1 (.slice 2 (.struct (.cons 1 (.int .i64) (.cons 1 (.int .i64) .nil)))) (.cons 1 (.slice 3 (.struct (.cons 1 (.int .i64) (.cons 1 (.int .i64) (.cons 1 (.int .i64) .nil))))) (.cons 1 (.int .i64) (.cons 1 (.int .i64) (.cons 1 (.int .i64) (.cons 1 (.int .i64) (.cons 1 (.int .i64) (.cons 5 (.struct (.cons 1 (.int .i64) (.cons 1 (.int .i64) (.cons 1 (.int .i64) (.cons 1 (.int .i64) (.cons 1 (.int .i64) .nil)))))) (.cons 3 (.arr (.cons 1 (.slice 2 (.struct (.cons 1 (.int .i64) (.cons 1 (.int .i64) .nil)))) (.cons 1 (.slice 2 (.struct (.cons 1 (.int .i64) (.cons 1 (.int .i64) .nil)))) (.cons 1 (.slice 2 (.struct (.cons 1 (.int .i64) (.cons 1 (.int .i64) .nil)))) .nil)))) .nil))))))))))))) v) : ∃ (t : NumT) (l n a b c : Value) (d : DealT), v = t.v l n a b c ∧ DealIn w l n a b c d ∧ d.t = t := by
  obtain ⟨cs, rfl, _, _, rfl, _, ⟨k0, rfl, _⟩, _, _, rfl, _, ⟨k1, rfl, _⟩, _, _, rfl, _, ⟨k2, rfl, _⟩, _, _, rfl, _, h0, _, _, rfl, _, h1, _, _, rfl, _, ⟨k3, rfl, _⟩, _, _, rfl, _, ⟨k4, rfl, _⟩, _, _, rfl, _, ⟨k5, rfl, _⟩, _, _, rfl, _, ⟨k6, rfl, _⟩, _, _, rfl, _, ⟨k7, rfl, _⟩, _, _, rfl, _, ht, _, _, rfl, _, hm, rfl⟩ := h
  obtain ⟨a, b, d, e, f, rfl⟩ := holds_tests5 ht
  obtain ⟨s0, z0, rfl, l0⟩ := holds_lns h0
  obtain ⟨s1, z1, rfl, l1⟩ := holds_trs h1
  obtain ⟨x, y, z, zx, zy, zz, rfl, lx, ly, lz⟩ := holds_lists hm
  exact ⟨⟨k0, k1, k2, k3, k4, k5, k6, k7, a, b, d, e, f⟩, s0, s1, x, y, z, ⟨⟨k0, k1, k2, k3, k4, k5, k6, k7, a, b, d, e, f⟩, z0, z1, zx, zy, zz⟩, rfl, ⟨l0, l1, lx, ly, lz⟩, rfl⟩
end Go.Proofs.Ytamdmicdieeolaa
