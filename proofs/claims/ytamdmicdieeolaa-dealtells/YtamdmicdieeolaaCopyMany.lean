/-
  copy of elements of any number of cells; one element of a block of them laid anew.
-/
import Derived.Test.YtamdmicdieeolaaLiesNew
namespace Go.Proofs.Ytamdmicdieeolaa
open Go.RowKit

/-- copy, of elements of any number of cells: all is read before anything is written. -/
theorem run_copy_many {P : Program} (w : World) (dT sT ty elem : TypeId) (m b o dLen dCap : Nat) (sp : Option Addr) (sLen sCap k : Nat) (cs : List Value)
    (hu : P.underlying dT = some (.slice elem)) (hs : (P.info? elem).map (·.size) = some m) (hk : Nat.min sLen dLen = k) (hn : cs.length = k * m) (hnone : sp = none → k = 0)
    (hsrc : ∀ a, sp = some a → ∀ j v, cs[j]? = some v → w.cell? (a.add j) = some v) (ht : w.there b o cs.length) (h1 : ∀ v ∈ cs, v.oneCell' = true) :
    (Builtin.copy_ #[dT, sT] ty #[.slice (some ⟨b, o, none⟩) dLen dCap, .slice sp sLen sCap]).run P w = .ok (goInt k) (w.setCells b o cs) := by
  have hst := run_storeCells_cells (P := P) b o cs 0 w (fun j hj => by simpa using (ht j hj).1) (fun j hj => by simpa using (ht j hj).2) h1
  cases hq : P.info? elem with
  | none => simp [hq] at hs
  | some i =>
    have hi : i.size = m := by simpa [hq] using hs
    cases sp with
    | none =>
      obtain rfl := hnone rfl
      obtain rfl : cs = [] := List.eq_nil_of_length_eq_zero (by simpa using hn)
      simp [Builtin.copy_, run_underlying hu, Builtin.lenOf, Builtin.firstCells, sizeOf, typeInfo, hq, hk, storeCells, World.setCells]
    | some a =>
      have hl := run_loadCells_list (P := P) w a cs (hsrc a rfl)
      simp [Builtin.copy_, run_underlying hu, Builtin.lenOf, Builtin.firstCells, sizeOf, typeInfo, hq, hi, hk, ← hn, hl, hst]
theorem wpList_copy_many {P : Program} {w : World} {ops : Array Oper} {rest : List Oper} {op : Oper} {a : Act} {Q : Exit → Act → World → Prop} (hgd : op.guard = none) (d s : Operand) (dT sT : TypeId)
    (ho : op.op = .call { callee := .builtin .copy, args := #[d, s], argTypes := #[dT, sT] }) (elem : TypeId) (m : Nat) (hu : P.underlying dT = some (.slice elem)) (hsz : (P.info? elem).map (·.size) = some m)
    (b o dLen dCap : Nat) (sp : Option Addr) (sLen sCap k : Nat) (cs : List Value) (hd : a.eval d = .slice (some ⟨b, o, none⟩) dLen dCap) (hs : a.eval s = .slice sp sLen sCap)
    (hk : Nat.min sLen dLen = k) (hn : cs.length = k * m) (hnone : sp = none → k = 0) (hsrc : ∀ a, sp = some a → ∀ j v, cs[j]? = some v → w.cell? (a.add j) = some v) (ht : w.there b o cs.length) (h1 : ∀ v ∈ cs, v.oneCell' = true)
    (h : wpList P ops Q rest (a.put op.dst (goInt k)) (w.setCells b o cs)) : wpList P ops Q (op :: rest) a w := by
  refine wpList_plain hgd fun K hK => ?_
  have hrun := run_copy_many (P := P) w dT sT op.type elem m b o dLen dCap sp sLen sCap k cs hu hsz hk hn hnone hsrc ht h1
  unfold Oper.wp
  simp [execOp, ho, resolve, invoke, builtin, hd, hs, hrun, Result.andThen]
  exact hK _ _ h

theorem own_blk {w : World} {base : Nat} {e : TypeId} {m g n : Nat} {xs : List Value} (h : w.ownsRow base e m (.slice (some ⟨g, 0, none⟩) n n) n xs) : Blk w g e xs := by
  rcases h.2 with ⟨h', _⟩ | ⟨g', cap, cur, e', hb, hh, _, _, hs, ht⟩
  · simp at h'
  · simp only [Value.slice.injEq, Option.some.injEq, Addr.mk.injEq] at e'
    obtain ⟨⟨rfl, _⟩, _, rfl⟩ := e'
    have : cur = xs.toArray := by
      rw [List.take_of_length_le (by simp [hs])] at ht
      rw [← ht]
    rw [this] at hh
    exact hh
/-- One element laid anew, all its cells. -/
theorem flat_put {α : Type} {m : Nat} {f : α → List Value} (hl : ∀ x, (f x).length = m) (x : α) : ∀ (S : List α) (i : Nat), i < S.length → (S.flatMap f).take (i * m) ++ f x ++ (S.flatMap f).drop (i * m + (f x).length) = (S.set i x).flatMap f
  | [], i, h => by simp at h
  | y :: r, 0, _ => by
    rw [List.flatMap_cons, Nat.zero_mul, Nat.zero_add, List.take_zero, List.nil_append, List.set_cons_zero, List.flatMap_cons, hl x, ← hl y, List.drop_left]
  | y :: r, i + 1, h => by
    have ih := flat_put hl x r i (by simpa using h)
    have hy : (i + 1) * m = (f y).length + i * m := by rw [hl, Nat.succ_mul]; omega
    rw [List.flatMap_cons, List.set_cons_succ, List.flatMap_cons, ← ih, hy, List.take_append, List.take_of_length_le (by omega), Nat.add_assoc, List.drop_append, List.drop_eq_nil_of_le (by omega)]
    simp only [Nat.add_sub_cancel_left, List.nil_append, List.append_assoc]
theorem Blk.lay {α : Type} {m : Nat} {f : α → List Value} (hl : ∀ x, (f x).length = m) {w : World} {g : Nat} {t : TypeId} {S : List α} (h : Blk w g t (S.flatMap f)) (i : Nat) (x : α) (hi : i < S.length) : Blk (w.setCells g (i * m) (f x)) g t ((S.set i x).flatMap f) := by
  rw [← flat_put hl x S i hi]
  refine h.setCells (f x) (i * m) ?_
  rw [hl, flat_length hl, ← Nat.succ_mul]
  exact Nat.mul_le_mul_right m hi
end Go.Proofs.Ytamdmicdieeolaa
