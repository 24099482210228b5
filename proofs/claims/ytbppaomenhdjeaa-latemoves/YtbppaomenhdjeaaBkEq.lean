/-
  Are two Buckets the same? (== of arrays of four ints.)
-/
import Derived.Test.YtbppaomenhdjeaaLateP
import Derived.ChangeKeysEq
namespace Go.Proofs.Ytbppaomenhdjeaa
open Go.RowKit

theorem eq_items {P : Program} (w : World) (d : Nat) (e : TypeId) (hu : P.underlying e = some (.int .i64)) (hp : P.plainKey e = true) (a b c x : Int) (a' b' c' x' : Int) :
    (Op.eqItems (d + 1) e 1 #[.int .i64 a, .int .i64 b, .int .i64 c, .int .i64 x] #[.int .i64 a', .int .i64 b', .int .i64 c', .int .i64 x'] [0, 1, 2, 3]).run P w = .ok (decide (a = a' ∧ b = b' ∧ c = c' ∧ x = x')) w := by
  have p0 := fun (xs : Array Value) (i : Nat) (v : Value) (h : xs[i]? = some v) => run_part_plain (P := P) w hp h
  have x0 := p0 #[.int .i64 a, .int .i64 b, .int .i64 c, .int .i64 x] 0 (.int .i64 a) rfl
  have y0 := p0 #[.int .i64 a', .int .i64 b', .int .i64 c', .int .i64 x'] 0 (.int .i64 a') rfl
  have x1 := p0 #[.int .i64 a, .int .i64 b, .int .i64 c, .int .i64 x] 1 (.int .i64 b) rfl
  have y1 := p0 #[.int .i64 a', .int .i64 b', .int .i64 c', .int .i64 x'] 1 (.int .i64 b') rfl
  have x2 := p0 #[.int .i64 a, .int .i64 b, .int .i64 c, .int .i64 x] 2 (.int .i64 c) rfl
  have y2 := p0 #[.int .i64 a', .int .i64 b', .int .i64 c', .int .i64 x'] 2 (.int .i64 c') rfl
  have x3 := p0 #[.int .i64 a, .int .i64 b, .int .i64 c, .int .i64 x] 3 (.int .i64 x) rfl
  have y3 := p0 #[.int .i64 a', .int .i64 b', .int .i64 c', .int .i64 x'] 3 (.int .i64 x') rfl
  have q := fun (m n : Int) => run_equalIn_int (P := P) w d e .i64 .i64 m n hu
  clear p0
  by_cases h0 : a = a'
  · by_cases h1 : b = b'
    · by_cases h2 : c = c'
      · by_cases h3 : x = x'
        · subst h0 h1 h2 h3; simp [Op.eqItems, Sem.run_bind, x0, x1, x2, x3, q]
        · subst h0 h1 h2; simp [Op.eqItems, Sem.run_bind, x0, y0, x1, y1, x2, y2, x3, y3, h3, q]
      · subst h0 h1; simp [Op.eqItems, Sem.run_bind, x0, y0, x1, y1, x2, y2, h2, q]
    · subst h0; simp [Op.eqItems, Sem.run_bind, x0, y0, x1, y1, h1, q]
  · simp [Op.eqItems, Sem.run_bind, x0, y0, h0, q]
theorem eq_bk {t : TypeId} (w : World) (hu : Try.prog.underlying t = some (.array 4 3)) (s o : BkT) :
    (Op.equalIn 10000 t s.v o.v).run Try.prog w = .ok (decide (s.a = o.a ∧ s.b = o.b ∧ s.c = o.c ∧ s.d = o.d)) w := by
  have hc : Try.prog.cellsOf 3 = 1 := by kernel_rfl
  obtain ⟨i, hi⟩ : ∃ i, Try.prog.info? 3 = some i := Option.isSome_iff_exists.1 (by kernel_rfl)
  have h := run_equalIn_array w (d := 9999) (P := Try.prog) (t := t) (e := 3) (n := 4) (i := i) #[.int .i64 s.a, .int .i64 s.b, .int .i64 s.c, .int .i64 s.d] #[.int .i64 o.a, .int .i64 o.b, .int .i64 o.c, .int .i64 o.d] hu hi
  rw [hc] at h
  have e := eq_items (P := Try.prog) w 9998 3 Try.underlying3 (by kernel_rfl) s.a s.b s.c s.d o.a o.b o.c o.d
  exact h.trans e
end Go.Proofs.Ytbppaomenhdjeaa
