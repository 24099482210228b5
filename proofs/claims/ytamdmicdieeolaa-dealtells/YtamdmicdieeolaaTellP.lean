/-
  For DealTells: a deal stored in a block that was there; one list of steps laid in the place of another.
-/
import Derived.Test.YtamdmicdieeolaaTellArg
import Derived.Test.YtamdmicdieeolaaTurnW
import Derived.Test.YtamdmicdieeolaaRefDP
namespace Go.Proofs.Ytamdmicdieeolaa
open Go.RowKit

/-- A right deal with another list in its second mode. -/
theorem DealT.ok_one {d : DealT} (h : d.ok = true) (zs : List StT) : DealT.ok { d with s1 := zs } = stepsP zs := by
  have h0 := h
  obtain ⟨m0, _, m2⟩ := DealT.ok_modes h
  unfold DealT.ok at h
  simp only [Bool.and_eq_true, decide_eq_true_eq] at h
  obtain ⟨⟨⟨⟨⟨⟨⟨h1, h2⟩, h3⟩, h4⟩, h5⟩, h6⟩, h7⟩, _⟩ := h
  show (d.t.ok && loansP d.ls && notesP d.ns && d.lent.isSome && d.issued.isSome && decide (d.lent.getD 0 ≤ 1099511627776) && decide (d.issued.getD 0 ≤ d.lent.getD 0) && (stepsP d.s0 && stepsP zs && stepsP d.s2)) = stepsP zs
  rw [h1, h2, h3, h4, h5, decide_eq_true h6, decide_eq_true h7, m0, m2]
  simp
/-- As many as are there, but no more than k. -/
theorem few (n k : Nat) : ∃ m : Nat, m ≤ n ∧ m ≤ k ∧ min (n : Int) (k : Int) = (m : Int) ∧ (if (k : Int) < (n : Int) then (k : Int) else (n : Int)) = (m : Int) ∧ (if (n : Int) < (k : Int) then (n : Int) else (k : Int)) = (m : Int) := by
  refine ⟨min n k, Nat.min_le_left _ _, Nat.min_le_right _ _, by omega, ?_, ?_⟩ <;> split <;> omega
/-- A deal just handed out, stored in a block that was there. -/
theorem wpl_put_deal {ops rest : _} {o : Oper} {Q : Exit → Act → World → Prop} {A : Act} {w : World} (x y : Operand) (ho : o.op = .store 29 x y) (hgd : o.guard = none) (t : NumT) (l n a b c : Value) (g : Nat) {cs : List Value} (hb : Blk w g 29 cs) (hl : cs.length = 18) (hx : A.eval x = .pointer (some ⟨g, 0, none⟩)) (hy : A.eval y = .agg (t.f l n a b c).toArray)
    (h0 : l.oneCell' = true) (h1 : n.oneCell' = true) (h2 : a.oneCell' = true) (h3 : b.oneCell' = true) (h4 : c.oneCell' = true)
    (h : ∀ wx, Blk wx g 29 (t.f l n a b c) → Rest g w wx → wpList Try.prog ops Q rest (A.put o.dst undef) wx) : wpList Try.prog ops Q (o :: rest) A w := by
  refine wpList_store_mid hgd 29 x y ho g 0 (t.f l n a b c).toArray hx hy (hb.there 0 18 (by omega)) Try.size_deal (all_oneCell_toArray (NumT.one t h0 h1 h2 h3 h4)) ?_
  exact h _ (hb.over (by rw [hl]; rfl)) (Rest.setCells g _ 0 _)
/-- A deal's second list of steps, another laid in its place. -/
theorem put_s1 {B F E k : Nat} {w : World} {l n a b c v : Value} {d : DealT} {zs : List StT} (O : DealOwn B w l n a b c d) (hE : Blk w E 29 (d.t.f l n a b c)) (ow : w.ownsRow F 37 2 v k (zs.flatMap StT.f)) (hk : zs.length = k) :
    Blk (w.setCell ⟨E, 16, none⟩ v) E 29 (d.t.f l n a v c) ∧ DealIn (w.setCell ⟨E, 16, none⟩ v) l n a v c { d with s1 := zs } := by
  have r := Rest.set E 16 w v
  have q := fun {v' : Value} {base' : Nat} {e' : TypeId} {m' n' : Nat} {ys : List Value} (j : w.ownsRow base' e' m' v' n' ys) (he : e' ≠ 29) => own_rest j r (own_not j hE he)
  exact ⟨hE.set 16 v, own_lies LnT.len (q O.ls (by decide)) rfl, own_lies TrT.len (q O.ns (by decide)) rfl, own_lies StT.len (q O.s0 (by decide)) rfl, own_lies StT.len (q ow (by decide)) hk, own_lies StT.len (q O.s2 (by decide)) rfl⟩
end Go.Proofs.Ytamdmicdieeolaa
