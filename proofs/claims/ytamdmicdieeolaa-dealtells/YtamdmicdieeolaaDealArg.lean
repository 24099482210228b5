/-
  Numbers of which a deal is made, as an argument.
-/
import Derived.Test.YtamdmicdieeolaaDealK
namespace Go.Proofs.Ytamdmicdieeolaa
open Go.RowKit

theorem holds_one_z {w : World} {c : List Value} (h : Holds w (.slice 1 (.int .i64)) c) : ∃ s zs, c = [s] ∧ Lies 1 intF w s zs ∧ zs.length ≤ 4611686018427387904 := by
  obtain ⟨a, len, cap, rfl, h1, _, _, h4, _⟩ := id h
  obtain ⟨zs, hz, _⟩ := arg_ints (w := w) (v := .slice a len cap) h
  have := hz.len.1
  exact ⟨_, zs, rfl, hz, by omega⟩
theorem holds_tests {w : World} {c : List Value} (h : Holds w (.arr (.cons 1 (.int .i64) (.cons 1 (.int .i64) (.cons 1 (.int .i64) (.cons 1 (.int .i64) (.cons 1 (.int .i64) .nil)))))) c) : ∃ a b d e f, c = [.int .i64 a, .int .i64 b, .int .i64 d, .int .i64 e, .int .i64 f] := by
  obtain ⟨_, _, rfl, _, ⟨a, rfl, _⟩, _, _, rfl, _, ⟨b, rfl, _⟩, _, _, rfl, _, ⟨d, rfl, _⟩, _, _, rfl, _, ⟨e, rfl, _⟩, _, _, rfl, _, ⟨f, rfl, _⟩, rfl⟩ := h
  exact ⟨a, b, d, e, f, rfl⟩
theorem holds_modes {w : World} {c : List Value} (h : Holds w (.arr (.cons 1 (.slice 1 (.int .i64)) (.cons 1 (.slice 1 (.int .i64)) (.cons 1 (.slice 1 (.int .i64)) .nil)))) c) : ∃ x y z zx zy zz, c = [x, y, z] ∧ Lies 1 intF w x zx ∧ Lies 1 intF w y zy ∧ Lies 1 intF w z zz := by
  obtain ⟨_, _, rfl, _, h0, _, _, rfl, _, h1, _, _, rfl, _, h2, rfl⟩ := h
  obtain ⟨x, zx, rfl, lx⟩ := holds_one h0
  obtain ⟨y, zy, rfl, ly⟩ := holds_one h1
  obtain ⟨z, zz, rfl, lz⟩ := holds_one h2
  exact ⟨x, y, z, zx, zy, zz, rfl, lx, ly, lz⟩
theorem arg_dealk {w : World} {v : Value} (h : Arg w (.struct (.cons 1 (.int .i64) (.cons 1 (.int .i64) (.cons 1 (.int .i64) (.cons 1 (.int .i64) (.cons 1 (.int .i64) (.cons 1 (.int .i64) (.cons 1 (.int .i64) (.cons 1 (.int .i64) (.cons 5 (.arr (.cons 1 (.int .i64) (.cons 1 (.int .i64) (.cons 1 (.int .i64) (.cons 1 (.int .i64) (.cons 1 (.int .i64) .nil)))))) (.cons 1 (.slice 1 (.int .i64)) (.cons 1 (.slice 1 (.int .i64)) (.cons 1 (.slice 1 (.int .i64)) (.cons 1 (.slice 1 (.int .i64)) (.cons 3 (.arr (.cons 1 (.slice 1 (.int .i64)) (.cons 1 (.slice 1 (.int .i64)) (.cons 1 (.slice 1 (.int .i64)) .nil)))) .nil))))))))))))))) v) : DealKIn w v := by
  obtain ⟨cs, rfl, _, _, rfl, _, ⟨k0, rfl, _⟩, _, _, rfl, _, ⟨k1, rfl, _⟩, _, _, rfl, _, ⟨k2, rfl, _⟩, _, _, rfl, _, ⟨k3, rfl, _⟩, _, _, rfl, _, ⟨k4, rfl, _⟩, _, _, rfl, _, ⟨k5, rfl, _⟩, _, _, rfl, _, ⟨k6, rfl, _⟩, _, _, rfl, _, ⟨k7, rfl, _⟩, _, _, rfl, _, ht, _, _, rfl, _, h0, _, _, rfl, _, h1, _, _, rfl, _, h2, _, _, rfl, _, h3, _, _, rfl, _, hm, rfl⟩ := h
  obtain ⟨a, b, d, e, f, rfl⟩ := holds_tests ht
  obtain ⟨s0, z0, rfl, l0⟩ := holds_one h0
  obtain ⟨s1, z1, rfl, l1, b1⟩ := holds_one_z h1
  obtain ⟨s2, z2, rfl, l2⟩ := holds_one h2
  obtain ⟨s3, z3, rfl, l3⟩ := holds_one h3
  obtain ⟨x, y, z, zx, zy, zz, rfl, lx, ly, lz⟩ := holds_modes hm
  exact ⟨⟨k0, k1, k2, k3, k4, k5, k6, k7, a, b, d, e, f⟩, s0, s1, s2, s3, x, y, z, z0, z1, z2, z3, zx, zy, zz, rfl, l0, l1, l2, l3, lx, ly, lz, b1⟩
end Go.Proofs.Ytamdmicdieeolaa
