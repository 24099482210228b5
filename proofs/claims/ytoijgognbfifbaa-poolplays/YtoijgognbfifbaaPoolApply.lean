/-
  Package pool: a pool in memory; the walk of Apply.
-/
import Derived.Test.YtoijgognbfifbaaPoolAfter
import Derived.Test.YtoijgognbfifbaaOrdX
import Derived.Test.YtoijgognbfifbaaFlat
namespace Go.Proofs.Ytoijgognbfifbaa
open Go.RowKit

/-- Elements of a slice that lies in another block than the one that is turned. -/
theorem Lies.rest {α : Type} {m b : Nat} {f : α → List Value} {w w' : World} {v : Value} {xs : List α} (h : Lies m f w v xs) (k : Rest b w w') (hb : v.ownBlock ≠ some b) : Lies m f w' v xs := by
  obtain ⟨a, cap, rfl, h1, h2, h3, hz⟩ := h
  refine ⟨a, cap, rfl, h1, h2, h3, ?_⟩
  rcases hz with h | ⟨g, off, rfl, hc⟩
  · exact Or.inl h
  · refine Or.inr ⟨g, off, rfl, fun i x hi j u hj => ?_⟩
    have := hc i x hi j u hj
    have hg : g ≠ b := fun e => hb (by rw [e]; rfl)
    exact (World.cell?_of_block (w := w) (a := ⟨g, _, none⟩) (k.block g (cell_block this) hg)).trans this
/-- A pool at block b: these loans. -/
def PoolM (w : World) (b : Nat) (p : List LoanP) : Prop := ∃ v, Blk w b 66 [v] ∧ Lies 5 LoanP.f w v p ∧ v.ownBlock ≠ some b
theorem PoolM.below {w w' : World} {b : Nat} {p : List LoanP} (h : PoolM w b p) (k : Below w.heap.size w w') : PoolM w' b p := by
  obtain ⟨v, h1, h2, h3⟩ := h
  exact ⟨v, h1.then k, h2.below k, h3⟩
theorem PoolM.lt {w : World} {b : Nat} {p : List LoanP} (h : PoolM w b p) : b < w.heap.size := by
  obtain ⟨v, h1, _⟩ := h
  exact h1.lt

/-- A pool whose loans lie in another block than h. -/
def PoolX (w : World) (b : Nat) (p : List LoanP) (h : Nat) : Prop := ∃ v, Blk w b 66 [v] ∧ Lies 5 LoanP.f w v p ∧ v.ownBlock ≠ some b ∧ v.ownBlock ≠ some h ∧ b ≠ h
theorem PoolM.x {w : World} {b h : Nat} {p : List LoanP} (hM : PoolM w b p) (hp : p ≠ []) (hh : w.heap.size ≤ h) : PoolX w b p h := by
  obtain ⟨v, h1, h2, h3⟩ := hM
  refine ⟨v, h1, h2, h3, fun e => ?_, fun e => by have := h1.lt; omega⟩
  obtain ⟨a, cap, rfl, k1, k2, k3, hz⟩ := h2
  rcases hz with hz | ⟨b', off, rfl, hc⟩
  · exact hp hz
  · cases p with
    | nil => exact hp rfl
    | cons o r =>
      have k5 : b' < w.heap.size := cell_block (hc 0 o rfl 0 _ rfl)
      have k6 : b' = h := by simpa [Value.ownBlock] using e
      omega
theorem PoolX.below {w w' : World} {b h : Nat} {p : List LoanP} (hM : PoolX w b p h) (k : Below w.heap.size w w') : PoolX w' b p h := by
  obtain ⟨v, h1, h2, h3⟩ := hM
  exact ⟨v, h1.then k, h2.below k, h3⟩
theorem PoolX.rest {w w' : World} {b h : Nat} {p : List LoanP} (hM : PoolX w b p h) (k : Rest h w w') : PoolM w' b p := by
  obtain ⟨v, h1, h2, h3, h4, h5⟩ := hM
  exact ⟨v, h1.rest k h5, h2.rest k h4, h3⟩
/-- The rest of a tape, behind these loans and what came so far. -/
def restP (q : List LoanP) (a : AggP) (l : List LineT) : Option (List LoanP × AggP) := (runP q l).map fun r => (r.1, a.plus r.2)
theorem AggP.plus_zero (a : AggP) : a.plus AggP.zero = a := by
  obtain ⟨a0, a1, a2, a3⟩ := a
  simp [AggP.plus, AggP.zero]
theorem AggP.zero_plus (a : AggP) : AggP.zero.plus a = a := by
  obtain ⟨a0, a1, a2, a3⟩ := a
  simp [AggP.plus, AggP.zero]
theorem AggP.plus_assoc (a b c : AggP) : (a.plus b).plus c = a.plus (b.plus c) := by
  obtain ⟨a0, a1, a2, a3⟩ := a
  obtain ⟨b0, b1, b2, b3⟩ := b
  obtain ⟨c0, c1, c2, c3⟩ := c
  simp [AggP.plus, Int.add_assoc]
theorem restP_start (p : List LoanP) (l : List LineT) : restP p AggP.zero l = runP p l := by
  unfold restP
  cases h : runP p l with
  | none => rfl
  | some r => simp [AggP.zero_plus]
theorem restP_nil (q : List LoanP) (a : AggP) : restP q a [] = some (q, a) := by simp [restP, runP, AggP.plus_zero]
theorem restP_none {q : List LoanP} {a : AggP} {x : LineT} {r : List LineT} (h : atP x.id q = none) : restP q a (x :: r) = none := by simp [restP, runP, h]
theorem restP_no {q : List LoanP} {a : AggP} {x : LineT} {r : List LineT} {i : Nat} {o : LoanP} (h : atP x.id q = some i) (ho : q[i]? = some o) (hm : mayP o x = false) : restP q a (x :: r) = none := by simp [restP, runP, h, ho, hm]
theorem restP_yes {q : List LoanP} {a : AggP} {x : LineT} {r : List LineT} {i : Nat} {o : LoanP} (h : atP x.id q = some i) (ho : q[i]? = some o) (hm : mayP o x = true) : restP q a (x :: r) = restP (q.set i (doP o x)) (a.plus (aggP o x)) r := by
  unfold restP
  rw [runP, h]
  simp only [ho, hm, if_true]
  cases runP (q.set i (doP o x)) r with
  | none => rfl
  | some m => simp [AggP.plus_assoc]
theorem AggP.Bd.plus {t o : AggP} {B C : Int} (h : t.Bd B) (k : o.Bd C) : (t.plus o).Bd (B + C) := by
  obtain ⟨t1, t2, t3, t4, t5, t6, t7, t8⟩ := h
  obtain ⟨s1, s2, s3, s4, s5, s6, s7, s8⟩ := k
  unfold AggP.plus
  exact ⟨by simp only; omega, by simp only; omega, by simp only; omega, by simp only; omega, by simp only; omega, by simp only; omega, by simp only; omega, by simp only; omega⟩
theorem aggP_bd {o : LoanP} {x : LineT} {B : Int} (h : o.Wf B) (hB : B ≤ 2199023255552) (hx : x.ok = true) (hm : mayP o x = true) : (aggP o x).Bd 2199023255552 := by
  obtain ⟨hA, _, _⟩ := (LineT.ok_iff x).1 hx
  obtain ⟨p0, p1, q0, q1, i0, i1, r0, r1⟩ := hA
  obtain ⟨_, h1, h2⟩ := mayP_iff hm
  obtain ⟨b0, b1, _, _, _, _, _, _, _⟩ := h
  unfold aggP leftP
  refine ⟨by simp only; omega, by simp only; omega, by simp only; omega, by simp only; omega, ?_, ?_, by simp only; omega, by simp only; omega⟩
  · simp only
    split <;> omega
  · simp only
    split <;> omega

theorem after_val (o : LoanP) (x : LineT) : ∃ (L : LoanP) (A : AggP) (ok : Bool), afterV o x = .tuple #[L.v, A.v, .bool ok] ∧ ((ok = false ∧ mayP o x = false) ∨ (ok = true ∧ mayP o x = true ∧ L = doP o x ∧ A = aggP o x)) := by
  unfold afterV
  cases h : mayP o x with
  | true => exact ⟨_, _, true, rfl, Or.inr ⟨rfl, rfl, rfl, rfl⟩⟩
  | false => exact ⟨_, _, false, rfl, Or.inl ⟨rfl, rfl⟩⟩
theorem own_addr {w : World} {base m n : Nat} {e : TypeId} {v : Value} {xs : List Value} (h : w.ownsRow base e m v n xs) (hn : 0 < n) : ∃ cap g, v = .slice (some ⟨g, 0, none⟩) n cap := by
  rcases h.2 with ⟨_, rfl⟩ | ⟨g, cap, cur, rfl, _⟩
  · omega
  · exact ⟨cap, g, rfl⟩
theorem own_shape {w : World} {base m n : Nat} {e : TypeId} {v : Value} {xs : List Value} (h : w.ownsRow base e m v n xs) : v = .slice none 0 0 ∨ ∃ cap g, v = .slice (some ⟨g, 0, none⟩) n cap := by
  rcases h.2 with ⟨rfl, rfl⟩ | ⟨g, cap, cur, rfl, _⟩
  · exact Or.inl rfl
  · exact Or.inr ⟨cap, g, rfl⟩
/-- One loan of a row that the call owns. -/
theorem own_loan {w : World} {base g cap n j : Nat} {e : TypeId} {q : List LoanP} {o : LoanP} (h : w.ownsRow base e 5 (.slice (some ⟨g, 0, none⟩) n cap) n (q.flatMap LoanP.f)) (hn : q.length = n) (ho : q[j]? = some o) :
    w.cell? ⟨g, j * 5, none⟩ = some (.int .i64 o.id) ∧ w.cell? ⟨g, j * 5 + 1, none⟩ = some (.int .i64 o.bal) ∧ w.cell? ⟨g, j * 5 + 2, none⟩ = some (.int .i64 o.lost) ∧ w.cell? ⟨g, j * 5 + 3, none⟩ = some (.int .i64 o.late) ∧ w.cell? ⟨g, j * 5 + 4, none⟩ = some (.bool o.over) := by
  have hj : j < n := by rw [← hn]; exact (List.getElem?_eq_some_iff.1 ho).1
  have k : (j + 1) * 5 ≤ n * 5 := Nat.mul_le_mul_right 5 hj
  have c : ∀ i u, o.f[i]? = some u → w.cell? ⟨g, j * 5 + i, none⟩ = some u := fun i u hu => by
    have hi : i < 5 := (List.getElem?_eq_some_iff.1 hu).1
    rw [h.cellAt (j * 5 + i) (by omega), flat_at LoanP.len q j i o ho hi]
    exact hu
  have c0 := c 0 _ rfl
  rw [Nat.add_zero] at c0
  exact ⟨c0, c 1 _ rfl, c 2 _ rfl, c 3 _ rfl, c 4 _ rfl⟩
/-- Two new variables, of a loan and of what came: which have come up, and which of them hold what they are to. -/
def NewG (W : World) (L : LoanP) (A : AggP) (d10 d11 d12 d13 : Bool) (v10 v11 : Value) (w : World) : Prop :=
  Below W.heap.size W w ∧ (d10 = true → ∃ g, v10 = .pointer (some ⟨g, 0, none⟩) ∧ W.heap.size ≤ g ∧ Blk w g 58 (if d12 = true then L.f else LoanP.zero.f)) ∧ (d11 = true → ∃ h, v11 = .pointer (some ⟨h, 0, none⟩) ∧ W.heap.size ≤ h ∧ Blk w h 27 (if d13 = true then A.f else AggP.zero.f)) ∧ (d10 = true → d11 = true → v10 ≠ v11)
theorem NewG.start {W w : World} {L : LoanP} {A : AggP} {v10 v11 : Value} (h : Below W.heap.size W w) : NewG W L A false false false false v10 v11 w := ⟨h, fun h => (by cases h), fun h => (by cases h), fun h => (by cases h)⟩
theorem NewG.below {W w w' : World} {L : LoanP} {A : AggP} {a b c d : Bool} {v10 v11 : Value} (h : NewG W L A a b c d v10 v11 w) (k : Below w.heap.size w w') : NewG W L A a b c d v10 v11 w' := by
  obtain ⟨h1, h2, h3, h4⟩ := h
  refine ⟨below_then h1 k, fun e => ?_, fun e => ?_, h4⟩
  · obtain ⟨g, e1, e2, e3⟩ := h2 e
    exact ⟨g, e1, e2, e3.then k⟩
  · obtain ⟨g, e1, e2, e3⟩ := h3 e
    exact ⟨g, e1, e2, e3.then k⟩
theorem ptr_inj {g h : Nat} (e : Value.pointer (some ⟨g, 0, none⟩) = Value.pointer (some ⟨h, 0, none⟩)) : g = h := by
  injection e with e
  injection e with e
  injection e
theorem NewG.loan {W w : World} {L : LoanP} {A : AggP} {a b c d : Bool} {v10 v11 : Value} (h : NewG W L A a b c d v10 v11 w) (_ : c = false) : NewG W L A true b false d (.pointer (some ⟨w.heap.size, 0, none⟩)) v11 (w.alloc (.cells #[.int .i64 0, .int .i64 0, .int .i64 0, .int .i64 0, .bool false] 58)) := by
  have h' := h.below (below_alloc (Below.refl _ _) (.cells #[.int .i64 0, .int .i64 0, .int .i64 0, .int .i64 0, .bool false] 58))
  obtain ⟨h1, h2, h3, h4⟩ := h
  refine ⟨h'.1, fun _ => ⟨_, rfl, h1.size, Blk.fresh _ _ LoanP.zero.f⟩, h'.2.2.1, fun _ e e2 => ?_⟩
  obtain ⟨g, e3, _, e4⟩ := h3 e
  rw [e3] at e2
  have := e4.lt
  have := ptr_inj e2
  omega
theorem NewG.agg {W w : World} {L : LoanP} {A : AggP} {a b c d : Bool} {v10 v11 : Value} (h : NewG W L A a b c d v10 v11 w) (_ : d = false) : NewG W L A a true c false v10 (.pointer (some ⟨w.heap.size, 0, none⟩)) (w.alloc (.cells #[.int .i64 0, .int .i64 0, .int .i64 0, .int .i64 0] 27)) := by
  have h' := h.below (below_alloc (Below.refl _ _) (.cells #[.int .i64 0, .int .i64 0, .int .i64 0, .int .i64 0] 27))
  obtain ⟨h1, h2, h3, h4⟩ := h
  refine ⟨h'.1, h'.2.1, fun _ => ⟨_, rfl, h1.size, Blk.fresh _ _ AggP.zero.f⟩, fun e _ e2 => ?_⟩
  obtain ⟨g, e3, _, e4⟩ := h2 e
  rw [e3] at e2
  have := e4.lt
  have := ptr_inj e2
  omega
theorem NewG.storeL {W w : World} {L : LoanP} {A : AggP} {b c d : Bool} {g : Nat} {v11 : Value} (h : NewG W L A true b c d (.pointer (some ⟨g, 0, none⟩)) v11 w) : NewG W L A true b true d (.pointer (some ⟨g, 0, none⟩)) v11 (((((w.setCell ⟨g, 0, none⟩ (.int .i64 L.id)).setCell ⟨g, 1, none⟩ (.int .i64 L.bal)).setCell ⟨g, 2, none⟩ (.int .i64 L.lost)).setCell ⟨g, 3, none⟩ (.int .i64 L.late)).setCell ⟨g, 4, none⟩ (.bool L.over)) := by
  obtain ⟨h1, h2, h3, h4⟩ := h
  obtain ⟨g', e1, e2, e3⟩ := h2 rfl
  obtain rfl := ptr_inj e1
  have k := Rest.put5 g w (.int .i64 L.id) (.int .i64 L.bal) (.int .i64 L.lost) (.int .i64 L.late) (.bool L.over)
  refine ⟨k.below h1 e2 h1.size, fun _ => ⟨_, rfl, e2, ?_⟩, fun e => ?_, h4⟩
  · have : ∃ p q r s t : Value, (if c = true then L.f else LoanP.zero.f) = [p, q, r, s, t] := by
      cases c
      · exact ⟨_, _, _, _, _, rfl⟩
      · exact ⟨_, _, _, _, _, rfl⟩
    obtain ⟨a', b', c', d', e', q⟩ := this
    rw [q] at e3
    exact e3.put5 _ _ _ _ _
  · obtain ⟨g', f1, f2, f3⟩ := h3 e
    refine ⟨g', f1, f2, f3.rest k ?_⟩
    rintro rfl
    exact h4 rfl e f1.symm
theorem NewG.storeA {W w : World} {L : LoanP} {A : AggP} {a c d : Bool} {g : Nat} {v10 : Value} (h : NewG W L A a true c d v10 (.pointer (some ⟨g, 0, none⟩)) w) : NewG W L A a true c true v10 (.pointer (some ⟨g, 0, none⟩)) ((((w.setCell ⟨g, 0, none⟩ (.int .i64 A.pr)).setCell ⟨g, 1, none⟩ (.int .i64 A.it)).setCell ⟨g, 2, none⟩ (.int .i64 A.ls)).setCell ⟨g, 3, none⟩ (.int .i64 A.rc)) := by
  obtain ⟨h1, h2, h3, h4⟩ := h
  obtain ⟨g', e1, e2, e3⟩ := h3 rfl
  obtain rfl := ptr_inj e1
  have k := Rest.put4 g w (.int .i64 A.pr) (.int .i64 A.it) (.int .i64 A.ls) (.int .i64 A.rc)
  refine ⟨k.below h1 e2 h1.size, fun e => ?_, fun _ => ⟨_, rfl, e2, ?_⟩, h4⟩
  · obtain ⟨g', f1, f2, f3⟩ := h2 e
    refine ⟨g', f1, f2, f3.rest k ?_⟩
    rintro rfl
    exact h4 e rfl f1
  · have : ∃ p q r s : Value, (if d = true then A.f else AggP.zero.f) = [p, q, r, s] := by
      cases d
      · exact ⟨_, _, _, _, rfl⟩
      · exact ⟨_, _, _, _, rfl⟩
    obtain ⟨a', b', c', d', q⟩ := this
    rw [q] at e3
    exact e3.put4 _ _ _ _
/-- The block of a pointer. -/
def ptrOf : Value → Nat
  | .pointer (some a) => a.block
  | _ => 0
theorem NewG.atL {W w : World} {L : LoanP} {A : AggP} {a b c d : Bool} {v10 v11 : Value} (h : NewG W L A a b c d v10 v11 w) (ha : a = true) : v10 = .pointer (some ⟨ptrOf v10, 0, none⟩) ∧ (w.cell? ⟨ptrOf v10, 0, none⟩ = some ((if c = true then L.f else LoanP.zero.f).getD 0 undef) ∧ w.cell? ⟨ptrOf v10, 1, none⟩ = some ((if c = true then L.f else LoanP.zero.f).getD 1 undef) ∧ w.cell? ⟨ptrOf v10, 2, none⟩ = some ((if c = true then L.f else LoanP.zero.f).getD 2 undef) ∧ w.cell? ⟨ptrOf v10, 3, none⟩ = some ((if c = true then L.f else LoanP.zero.f).getD 3 undef) ∧ w.cell? ⟨ptrOf v10, 4, none⟩ = some ((if c = true then L.f else LoanP.zero.f).getD 4 undef)) ∧ (∀ i, w.frozen? ⟨ptrOf v10, i, none⟩ = false) ∧ NewG W L A a b true d v10 v11 (((((w.setCell ⟨ptrOf v10, 0, none⟩ (.int .i64 L.id)).setCell ⟨ptrOf v10, 1, none⟩ (.int .i64 L.bal)).setCell ⟨ptrOf v10, 2, none⟩ (.int .i64 L.lost)).setCell ⟨ptrOf v10, 3, none⟩ (.int .i64 L.late)).setCell ⟨ptrOf v10, 4, none⟩ (.bool L.over)) := by
  subst ha
  obtain ⟨g, rfl, _, e3⟩ := h.2.1 rfl
  refine ⟨rfl, ?_, fun i => e3.frozen i, h.storeL⟩
  cases c
  · exact ⟨e3.cell 0 _ rfl, e3.cell 1 _ rfl, e3.cell 2 _ rfl, e3.cell 3 _ rfl, e3.cell 4 _ rfl⟩
  · exact ⟨e3.cell 0 _ rfl, e3.cell 1 _ rfl, e3.cell 2 _ rfl, e3.cell 3 _ rfl, e3.cell 4 _ rfl⟩
theorem NewG.atA {W w : World} {L : LoanP} {A : AggP} {a b c d : Bool} {v10 v11 : Value} (h : NewG W L A a b c d v10 v11 w) (hb : b = true) : v11 = .pointer (some ⟨ptrOf v11, 0, none⟩) ∧ (w.cell? ⟨ptrOf v11, 0, none⟩ = some ((if d = true then A.f else AggP.zero.f).getD 0 undef) ∧ w.cell? ⟨ptrOf v11, 1, none⟩ = some ((if d = true then A.f else AggP.zero.f).getD 1 undef) ∧ w.cell? ⟨ptrOf v11, 2, none⟩ = some ((if d = true then A.f else AggP.zero.f).getD 2 undef) ∧ w.cell? ⟨ptrOf v11, 3, none⟩ = some ((if d = true then A.f else AggP.zero.f).getD 3 undef)) ∧ (∀ i, w.frozen? ⟨ptrOf v11, i, none⟩ = false) ∧ NewG W L A a b c true v10 v11 ((((w.setCell ⟨ptrOf v11, 0, none⟩ (.int .i64 A.pr)).setCell ⟨ptrOf v11, 1, none⟩ (.int .i64 A.it)).setCell ⟨ptrOf v11, 2, none⟩ (.int .i64 A.ls)).setCell ⟨ptrOf v11, 3, none⟩ (.int .i64 A.rc)) := by
  subst hb
  obtain ⟨g, rfl, _, e3⟩ := h.2.2.1 rfl
  refine ⟨rfl, ?_, fun i => e3.frozen i, h.storeA⟩
  cases d
  · exact ⟨e3.cell 0 _ rfl, e3.cell 1 _ rfl, e3.cell 2 _ rfl, e3.cell 3 _ rfl⟩
  · exact ⟨e3.cell 0 _ rfl, e3.cell 1 _ rfl, e3.cell 2 _ rfl, e3.cell 3 _ rfl⟩
theorem NewG.all {W w : World} {L : LoanP} {A : AggP} {v10 v11 : Value} (h : NewG W L A true true true true v10 v11 w) : v10 = .pointer (some ⟨ptrOf v10, 0, none⟩) ∧ v11 = .pointer (some ⟨ptrOf v11, 0, none⟩) ∧ W.heap.size ≤ ptrOf v10 ∧ W.heap.size ≤ ptrOf v11 ∧ Below W.heap.size W w ∧ Blk w (ptrOf v10) 58 L.f ∧ Blk w (ptrOf v11) 27 A.f := by
  obtain ⟨h1, h2, h3, _⟩ := h
  obtain ⟨g, rfl, e2, e3⟩ := h2 rfl
  obtain ⟨k, rfl, f2, f3⟩ := h3 rfl
  exact ⟨rfl, rfl, e2, f2, h1, e3, f3⟩
/-- The loop of Apply: what stands so far. -/
structure AppI (w W wr : World) (gR gA m : Nat) (v : Value) (B : Int) (k : Nat) (q : List LoanP) (a : AggP) : Prop where
  below : Below w.heap.size w wr
  wf : ∀ o ∈ q, o.Wf B
  len : q.length = m
  bd : a.Bd (k * 2199023255552)
  res : Blk wr gR 27 AggP.zero.f
  agg : Blk wr gA 27 a.f
  own : wr.ownsRow W.heap.size 58 5 v m (q.flatMap LoanP.f)

theorem AppI.then {w W wr wx : World} {gR gA m k : Nat} {v : Value} {B : Int} {q : List LoanP} {a : AggP} (h : AppI w W wr gR gA m v B k q a) (b : Below wr.heap.size wr wx) : AppI w W wx gR gA m v B k q a :=
  ⟨below_then h.below b, h.wf, h.len, h.bd, h.res.then b, h.agg.then b, own_below h.own b⟩
/-- One loan of the row turned. -/
theorem AppI.put {w W wr : World} {gR gA gV m cap k j : Nat} {B : Int} {q : List LoanP} {a : AggP} {o o' : LoanP} (h : AppI w W wr gR gA m (.slice (some ⟨gV, 0, none⟩) m cap) B k q a) (ho : q[j]? = some o) (hwf : o'.Wf B) (_ : o'.id = o.id) (hw : w.heap.size ≤ gV) (hA : gA ≠ gV) (hR : gR ≠ gV) :
    AppI w W (((((wr.setCell ⟨gV, j * 5, none⟩ (.int .i64 o'.id)).setCell ⟨gV, j * 5 + 1, none⟩ (.int .i64 o'.bal)).setCell ⟨gV, j * 5 + 2, none⟩ (.int .i64 o'.lost)).setCell ⟨gV, j * 5 + 3, none⟩ (.int .i64 o'.late)).setCell ⟨gV, j * 5 + 4, none⟩ (.bool o'.over)) gR gA m (.slice (some ⟨gV, 0, none⟩) m cap) B k (q.set j o') a := by
  have hj : j < q.length := (List.getElem?_eq_some_iff.1 ho).1
  have r1 := flat_set LoanP.len (x := o) (x' := ⟨o'.id, o.bal, o.lost, o.late, o.over⟩) (j := 0) (u := .int .i64 o'.id) rfl (by omega) q j ho
  have r2 := flat_set LoanP.len (x := ⟨o'.id, o.bal, o.lost, o.late, o.over⟩) (x' := ⟨o'.id, o'.bal, o.lost, o.late, o.over⟩) (j := 1) (u := .int .i64 o'.bal) rfl (by omega) (q.set j ⟨o'.id, o.bal, o.lost, o.late, o.over⟩) j (by simp [hj])
  have r3 := flat_set LoanP.len (x := ⟨o'.id, o'.bal, o.lost, o.late, o.over⟩) (x' := ⟨o'.id, o'.bal, o'.lost, o.late, o.over⟩) (j := 2) (u := .int .i64 o'.lost) rfl (by omega) (q.set j ⟨o'.id, o'.bal, o.lost, o.late, o.over⟩) j (by simp [hj])
  have r4 := flat_set LoanP.len (x := ⟨o'.id, o'.bal, o'.lost, o.late, o.over⟩) (x' := ⟨o'.id, o'.bal, o'.lost, o'.late, o.over⟩) (j := 3) (u := .int .i64 o'.late) rfl (by omega) (q.set j ⟨o'.id, o'.bal, o'.lost, o.late, o.over⟩) j (by simp [hj])
  have r5 := flat_set LoanP.len (x := ⟨o'.id, o'.bal, o'.lost, o'.late, o.over⟩) (x' := o') (j := 4) (u := .bool o'.over) rfl (by omega) (q.set j ⟨o'.id, o'.bal, o'.lost, o'.late, o.over⟩) j (by simp [hj])
  rw [List.set_set] at r2 r3 r4 r5
  rw [Nat.add_zero] at r1
  have s := h.own
  have s1 := (s.stored (j * 5) (.int .i64 o'.id)).1
  rw [r1] at s1
  have s2 := (s1.stored (j * 5 + 1) (.int .i64 o'.bal)).1
  rw [r2] at s2
  have s3 := (s2.stored (j * 5 + 2) (.int .i64 o'.lost)).1
  rw [r3] at s3
  have s4 := (s3.stored (j * 5 + 3) (.int .i64 o'.late)).1
  rw [r4] at s4
  have s5 := (s4.stored (j * 5 + 4) (.bool o'.over)).1
  rw [r5] at s5
  exact ⟨((((h.below.setCell hw _).setCell hw _).setCell hw _).setCell hw _).setCell hw _, all_set h.wf hwf, by simpa using h.len, h.bd, ((((h.res.set_other _ _ hR _).set_other _ _ hR _).set_other _ _ hR _).set_other _ _ hR _).set_other _ _ hR _, ((((h.agg.set_other _ _ hA _).set_other _ _ hA _).set_other _ _ hA _).set_other _ _ hA _).set_other _ _ hA _, s5⟩
/-- What came so far, turned. -/
theorem AppI.more {w W wr : World} {gR gA m k : Nat} {B : Int} {v : Value} {q : List LoanP} {a b : AggP} (h : AppI w W wr gR gA m v B k q a) (hb : b.Bd 2199023255552) (hv : v.ownBlock ≠ some gA) (hw : w.heap.size ≤ gA) (hR : gR ≠ gA) :
    AppI w W ((((wr.setCell ⟨gA, 0, none⟩ (.int .i64 (a.pr + b.pr))).setCell ⟨gA, 1, none⟩ (.int .i64 (a.it + b.it))).setCell ⟨gA, 2, none⟩ (.int .i64 (a.ls + b.ls))).setCell ⟨gA, 3, none⟩ (.int .i64 (a.rc + b.rc))) gR gA m v B (k + 1) q (a.plus b) := by
  have r := Rest.put4 gA wr (.int .i64 (a.pr + b.pr)) (.int .i64 (a.it + b.it)) (.int .i64 (a.ls + b.ls)) (.int .i64 (a.rc + b.rc))
  refine ⟨r.below h.below hw h.below.size, h.wf, h.len, ?_, h.res.rest r hR, h.agg.put4 _ _ _ _, own_same h.own fun g hg => r.block g (h.own.lt g hg).2 (fun e => hv (e ▸ hg))⟩
  have := h.bd.plus hb
  have e : ((k + 1 : Nat) : Int) * 2199023255552 = (k : Int) * 2199023255552 + 2199023255552 := by omega
  rw [e]
  exact this
theorem rightT_len {xs : List LineT} (h : rightT xs = true) : xs.length ≤ 64 := by
  unfold rightT at h
  simp only [Bool.and_eq_true, decide_eq_true_eq] at h
  exact h.1
theorem app_results {gR : Nat} {A : AggP} {n : Int} {tmps : Array Value} {Y : World} (h4 : tmps[4]?.getD undef = .pointer (some ⟨gR, 0, none⟩)) (h5 : tmps[5]?.getD undef = .int .i64 n) (k : Blk Y gR 27 A.f) :
    (results Try.f8 tmps).run Try.prog Y = .ok (.tuple #[A.v, .int .i64 n]) Y := by
  have y0 := k.cell 0 _ rfl
  have y1 := k.cell 1 _ rfl
  have y2 := k.cell 2 _ rfl
  have y3 := k.cell 3 _ rfl
  simp [results, Try.results8, go_sem, h4, h5, y0, y1, y2, y3, AggP.v]
/-- The end of a tape that may be. -/
theorem app_done {P : Ending → World → Prop} {w W X : World} {b gR gA m k : Nat} {v : Value} {B : Int} {q : List LoanP} {a : AggP} {S : List LoanP → AggP → Prop} (h : AppI w W X gR gA m v B k q a) {v0 : Value} (hb : Blk X b 66 [v0]) (hbw : b < w.heap.size) (hR : w.heap.size ≤ gR) (hWw : w.heap.size ≤ W.heap.size) (hvR : v.ownBlock ≠ some gR) (Y : World)
    (hY : Y = ((((((X.setCell ⟨b, 0, none⟩ v).setCell ⟨gR, 0, none⟩ (.int .i64 a.pr)).setCell ⟨gR, 1, none⟩ (.int .i64 a.it)).setCell ⟨gR, 2, none⟩ (.int .i64 a.ls)).setCell ⟨gR, 3, none⟩ (.int .i64 a.rc)))) (tmps : Array Value) (h4 : tmps[4]?.getD undef = .pointer (some ⟨gR, 0, none⟩)) (h5 : tmps[5]?.getD undef = .int .i64 0) (hp : S q a) :
    bodyPost Try.prog Try.f8 (fun e w' => P e w' ∨ ∃ q a, S q a ∧ e = .returned (.tuple #[a.v, .int .i64 0]) ∧ Rest b w w' ∧ PoolM w' b q ∧ ∀ h, h < w.heap.size → h ≠ b → PoolX w' b q h) Exit.ret { tmps := tmps, defers := [] } Y := by
  subst hY
  have hbR : b ≠ gR := by omega
  have r1 := Rest.set b 0 X v
  have r2 := Rest.put4 gR (X.setCell ⟨b, 0, none⟩ v) (.int .i64 a.pr) (.int .i64 a.it) (.int .i64 a.ls) (.int .i64 a.rc)
  have hvb : v.ownBlock ≠ some b := fun e => by have := (h.own.lt b e).1; omega
  have hl := ((own_lies LoanP.len h.own h.len).rest r1 hvb).rest r2 hvR
  refine bodyPost_ret (app_results h4 h5 ((h.res.rest r1 (Ne.symm hbR)).put4 _ _ _ _)) rfl (Or.inr ⟨q, a, hp, rfl, rest_of_new ((Rest.of_below h.below).trans r1) r2 hR, ⟨v, (hb.set 0 v).rest r2 hbR, hl, hvb⟩, fun h' hh hn => ⟨v, (hb.set 0 v).rest r2 hbR, hl, hvb, fun e => by have := (h.own.lt h' e).1; omega, Ne.symm hn⟩⟩)
/-- The end of a tape that may not be. -/
theorem app_refuse {P : Prop} {R : Ending → World → Prop} {w X : World} {gR : Nat} {a b c d : Value} (hB : Below w.heap.size w X) (hR : w.heap.size ≤ gR) (k : Blk X gR 27 [a, b, c, d]) (tmps : Array Value) (h4 : tmps[4]?.getD undef = .pointer (some ⟨gR, 0, none⟩)) (h5 : tmps[5]?.getD undef = .int .i64 3) (hp : P) :
    bodyPost Try.prog Try.f8 (fun e w' => (P ∧ e = .returned (.tuple #[AggP.zero.v, .int .i64 3]) ∧ Below w.heap.size w w') ∨ R e w') Exit.ret { tmps := tmps, defers := [] } ((((X.setCell ⟨gR, 0, none⟩ (.int .i64 0)).setCell ⟨gR, 1, none⟩ (.int .i64 0)).setCell ⟨gR, 2, none⟩ (.int .i64 0)).setCell ⟨gR, 3, none⟩ (.int .i64 0)) :=
  bodyPost_ret (app_results (A := AggP.zero) h4 h5 (k.put4 _ _ _ _)) rfl (Or.inl ⟨hp, rfl, (Rest.put4 gR X _ _ _ _).below hB hR hB.size⟩)

set_option maxRecDepth 100000 in
set_option maxHeartbeats 1000000 in
theorem apply_any (b : Nat) (p : List LoanP) (l : Value) (xs : List LineT) (w : World) (B : Int) (hP : PoolM w b p) (hl : Lies 7 LineT.f w l xs) (hW : ∀ o ∈ p, o.Wf B) (hB : B ≤ 2199023255552) (hn : p.length ≤ 64) :
    Calls Try.prog 8 #[.pointer (some ⟨b, 0, none⟩), l] w fun e w' =>
      (applyP p xs = none ∧ e = .returned (.tuple #[AggP.zero.v, .int .i64 3]) ∧ Below w.heap.size w w') ∨
      ∃ q a, applyP p xs = some (q, a) ∧ e = .returned (.tuple #[a.v, .int .i64 0]) ∧ Rest b w w' ∧ PoolM w' b q ∧ ∀ h, h < w.heap.size → h ≠ b → PoolX w' b q h := by
  obtain ⟨a, cap, rfl, _, hcm, _, _⟩ := id hl
  obtain ⟨n, hnl⟩ : ∃ n, xs.length = n := ⟨_, rfl⟩
  have hlen := hl.len
  rw [hnl] at hl hlen ⊢
  unfold maxLen at hlen
  have hm : n ≤ 9223372036854775807 := by omega
  have HL : Hid (Lies 7 LineT.f w (.slice a n cap) xs) := hl
  have HN : Hid (xs.length = n) := hnl
  have HP : Hid (PoolM w b p) := hP
  clear hl hnl hcm hlen
  go_enter Try.func8, Try.ntmps8
  go_upto_region 1 with fail
  refine wp_letter (fun wx => Below w.heap.size w wx ∧ ∃ gR, w.heap.size = gR ∧ Blk wx gR 27 AggP.zero.f) ⟨below_alloc (Below.refl _ _) _, _, rfl, Blk.fresh _ _ _⟩ ?_
  rintro W0 ⟨h0, gR, eR, bR⟩
  rw [eR]
  have hr0 := bR.cell 0 _ rfl
  have hR : w.heap.size ≤ gR := Nat.le_of_eq eR
  clear eR
  cases hT : rightT xs with
  | false =>
    have HT : Hid (rightT xs = false) := hT
    have HF : Hid (applyP p xs = none) := by
      show _ = _
      rw [applyP, hT]
      rfl
    clear hT
    go_upto_region 2 with (go_at_call 23; refine (tright_any _ xs _ (HL.out.below h0)).mono ?_; rintro e w1 ⟨rfl, d1⟩; rw [HT.out])
    have bB := below_then h0 d1
    replace bR := bR.then d1
    have f0 := bR.frozen 0; have f1 := bR.frozen 1; have f2 := bR.frozen 2; have f3 := bR.frozen 3
    have y0 := bR.cell 0 _ rfl; have y1 := bR.cell 1 _ rfl; have y2 := bR.cell 2 _ rfl; have y3 := bR.cell 3 _ rfl
    go_wp2
    exact app_refuse bB hR bR _ rfl rfl HF.out
  | true =>
    have HT : Hid (rightT xs = true) := hT
    obtain ⟨F, hF⟩ : ∃ F, runP p xs = F := ⟨_, rfl⟩
    have HF : Hid (applyP p xs = F) := by
      show _ = _
      rw [applyP, hT, ← hF]
      rfl
    have HS : Hid (restP p AggP.zero xs = F) := by
      show _ = _
      rw [restP_start, hF]
    have HK : Hid (∀ x ∈ xs, x.ok = true) := rightFrom_ok 0 xs (by
      unfold rightT at hT
      simp only [Bool.and_eq_true] at hT
      exact hT.2)
    clear hT hF
    go_upto_region 3 with (go_at_call 23; refine (tright_any _ xs _ (HL.out.below h0)).mono ?_; rintro e w1 ⟨rfl, d1⟩; rw [HT.out])
    have bB := below_then h0 d1
    replace bR := bR.then d1
    clear h0 d1 hr0
    obtain ⟨v0, bP, lP, hvb⟩ := HP.out.below bB
    have p0 := bP.cell 0 _ rfl
    have LP : Hid (Lies 5 LoanP.f w1 v0 p) := lP
    clear lP
    go_upto_region 4 with (go_at_call 24; refine (clone_any _ p _ LP.out (by omega)).mono ?_; rintro e w2 ⟨v, rfl, ow, d2⟩)
    obtain ⟨m, em⟩ : ∃ m, p.length = m := ⟨_, rfl⟩
    rw [em] at ow
    have bB2 := below_then bB d2
    have bR2 := bR.then d2
    have bP2 := bP.then d2
    go_upto_region 5 with fail
    refine wp_letter (fun wx => ∃ gA, w2.heap.size = gA ∧ w1.heap.size ≤ gA ∧ v.ownBlock ≠ some gA ∧ AppI w w1 wx gR gA m v B 0 p AggP.zero) ⟨_, rfl, d2.size, fun h => by have := (ow.lt _ h).2; omega, below_alloc bB2 _, hW, em, ⟨by decide, by decide, by decide, by decide, by decide, by decide, by decide, by decide⟩, bR2.alloc _, Blk.fresh _ _ _, ow.alloc _⟩ ?_
    rintro W3 ⟨gA, eA, hA1, hvA, hI⟩
    rw [eA]
    have gRw : gR < w1.heap.size := bR.lt
    have hw1 : w.heap.size ≤ w1.heap.size := bB.size
    have HB : Hid (∀ wx, Below w.heap.size w wx → ∃ v, Blk wx b 66 [v]) := fun wx hx => by
      obtain ⟨v, h1, _⟩ := HP.out.below hx
      exact ⟨v, h1⟩
    have bw : b < w.heap.size := HP.out.lt
    clear p0 LP bP bR bB bB2 bR2 bP2 ow d2 eA
    go_wp2
    go_loopw [26] (fun i wr => ∃ (k : Nat) (q : List LoanP) (a : AggP), k ≤ n ∧ i = .int .i64 k ∧ restP q a (xs.drop k) = F ∧ AppI w w1 wr gR gA m v B k q a) (fun i _ => n - (intOf i).toNat)
    case atStart => exact ⟨0, p, AggP.zero, Nat.zero_le _, rfl, HS.out, hI⟩
    case round =>
    clear hI HS
    obtain ⟨k, q, ag, hk, rfl, hS, hI⟩ := hrel
    have HS : Hid (restP q ag (xs.drop k) = F) := hS
    clear hS
    by_cases hlt : k < n
    · obtain ⟨lb, off, x, rfl, hx, hmem, c0, c1, c2, c3, c4, c5, c6⟩ := HL.out.line k hlt
      have hB := hI.below
      replace c0 := cell_keep hB c0
      replace c1 := cell_keep hB c1
      replace c2 := cell_keep hB c2
      replace c3 := cell_keep hB c3
      replace c4 := cell_keep hB c4
      replace c5 := cell_keep hB c5
      replace c6 := cell_keep hB c6
      have hd : xs.drop k = x :: xs.drop (k + 1) := by
        obtain ⟨h1, rfl⟩ := List.getElem?_eq_some_iff.1 hx
        exact List.drop_eq_getElem_cons h1
      have HS2 : Hid (restP q ag (x :: xs.drop (k + 1)) = F) := by
        rw [← hd]
        exact HS
      have hok : x.ok = true := HK.out x hmem
      clear HS hd hx hmem
      go_upto_region 8 with fail
      refine wp_letter (fun wx => ∃ gL, wr.heap.size = gL ∧ Blk wx gL 32 x.f ∧ AppI w w1 wx gR gA m v B k q ag) ⟨_, rfl, Blk.fresh _ _ _, hI.then (below_alloc (Below.refl _ _) _)⟩ ?_
      have hLs : gA < wr.heap.size := hI.agg.lt
      clear hB c0 c1 c2 c3 c4 c5 c6 hI
      rintro X ⟨gL, eL, bL, hI⟩
      rw [eL]
      rw [eL] at hLs
      have x0 := bL.cell 0 _ rfl
      cases hat : atP x.id q with
      | none =>
        have HAT : Hid (atP x.id q = none) := hat
        go_upto_region 10 with (go_at_call 25; refine (place_any v q x.id _ (own_lies LoanP.len hI.own hI.len)).mono ?_; rintro e w4 ⟨rfl, d4⟩; rw [HAT.out]; unfold placeV)
        have hI4 := hI.then d4
        have bR := hI4.res
        have f0 := bR.frozen 0; have f1 := bR.frozen 1; have f2 := bR.frozen 2; have f3 := bR.frozen 3
        have y0 := bR.cell 0 _ rfl; have y1 := bR.cell 1 _ rfl; have y2 := bR.cell 2 _ rfl; have y3 := bR.cell 3 _ rfl
        go_wp2
        exact app_refuse hI4.below hR bR _ rfl rfl (by rw [HF.out, ← HS2.out, restP_none hat])
      | some j =>
        have HAT : Hid (atP x.id q = some j) := hat
        obtain ⟨o, ho, -⟩ := atP_some hat
        go_upto_region 11 with (go_at_call 25; refine (place_any v q x.id _ (own_lies LoanP.len hI.own hI.len)).mono ?_; rintro e w4 ⟨rfl, d4⟩; rw [HAT.out]; unfold placeV)
        replace hI := hI.then d4
        replace bL := bL.then d4
        clear d4 x0
        obtain ⟨L, A, ok, hV, hok2⟩ := after_val o x
        have HV : Hid (afterV o x = .tuple #[.agg #[.int .i64 L.id, .int .i64 L.bal, .int .i64 L.lost, .int .i64 L.late, .bool L.over], .agg #[.int .i64 A.pr, .int .i64 A.it, .int .i64 A.ls, .int .i64 A.rc], .bool ok]) := hV
        have HA : Hid ((ok = false ∧ mayP o x = false) ∨ (ok = true ∧ mayP o x = true ∧ L = doP o x ∧ A = aggP o x)) := hok2
        have hjm : j < m := by rw [← hI.len]; exact (List.getElem?_eq_some_iff.1 ho).1
        have hof : o.Wf B := hI.wf o (mem_at ho)
        obtain ⟨capV, gV, ev⟩ := own_addr hI.own (by omega)
        subst ev
        obtain ⟨c0, c1, c2, c3, c4⟩ := own_loan hI.own hI.len ho
        obtain ⟨hv1, hv2⟩ := hI.own.lt gV rfl
        have hLs2 := bL.lt
        have x0 := bL.cell 0 _ rfl; have x1 := bL.cell 1 _ rfl; have x2 := bL.cell 2 _ rfl; have x3 := bL.cell 3 _ rfl; have x4 := bL.cell 4 _ rfl; have x5 := bL.cell 5 _ rfl; have x6 := bL.cell 6 _ rfl
        go_cut [12, 13, 14] (fun s t u wx => ∃ g h, s = .pointer (some ⟨g, 0, none⟩) ∧ t = .pointer (some ⟨h, 0, none⟩) ∧ u = .bool ok ∧ w4.heap.size ≤ g ∧ w4.heap.size ≤ h ∧ Below w4.heap.size w4 wx ∧ Blk wx g 58 L.f ∧ Blk wx h 27 A.f)
        case first =>
          refine wp_region_x [41, 42, 43, 44, 45, 46, 40, 47, 48, 49, 12, 13, 0, 0, 14] [0, 1, 2, 3, 4, 5, 6, 7, 8, 9, 10, 11, 14] [fun y => y = (.slice (some ⟨gV, 0, none⟩) m capV : Value), fun y => y = (.int .i64 j : Value), fun y => y = (.pointer (some ⟨gV, j * 5, none⟩) : Value), fun y => y = (.agg #[.int .i64 o.id, .int .i64 o.bal, .int .i64 o.lost, .int .i64 o.late, .bool o.over] : Value), fun y => y = (.agg #[.int .i64 x.id, .int .i64 x.pr, .int .i64 x.pp, .int .i64 x.it, .int .i64 x.rc, .int .i64 x.lt, .bool x.df] : Value), fun y => y = (.tuple #[.agg #[.int .i64 L.id, .int .i64 L.bal, .int .i64 L.lost, .int .i64 L.late, .bool L.over], .agg #[.int .i64 A.pr, .int .i64 A.it, .int .i64 A.ls, .int .i64 A.rc], .bool ok] : Value), fun y => y = (.tuple #[.agg #[.int .i64 L.id, .int .i64 L.bal, .int .i64 L.lost, .int .i64 L.late, .bool L.over], .agg #[.int .i64 A.pr, .int .i64 A.it, .int .i64 A.ls, .int .i64 A.rc], .bool ok] : Value), fun y => y = (.agg #[.int .i64 L.id, .int .i64 L.bal, .int .i64 L.lost, .int .i64 L.late, .bool L.over] : Value), fun y => y = (.agg #[.int .i64 A.pr, .int .i64 A.it, .int .i64 A.ls, .int .i64 A.rc] : Value), fun y => y = (.bool ok : Value), fun _ => True, fun _ => True, fun _ => True, fun _ => True, fun y => y = (.bool ok : Value)] (fun D y wx => NewG w4 L A (D 10) (D 11) (D 12) (D 13) (y 10) (y 11) wx) [0, 1, 2, 3, 4, 5, 6, 7, 8, 9, 10, 11, 12, 13, 14] (by kernel_rfl) (by kernel_rfl) (by kernel_rfl) (fun _ => NewG.start (Below.refl _ _).drew) ?_ ?_
          · refine StepsX.cons (some 41) rfl rfl (fun y wx D hg hF hno K hK => ?_) ?_
            · simp only [acts, Act.put, List.getD_cons_zero, List.getD_cons_succ, List.setIfInBounds_toArray, List.set_cons_zero, List.set_cons_succ]
              go_simp
              refine hK.out _ _ (afterX_mk (.slice (some ⟨gV, 0, none⟩) m capV : Value) ?_ rfl (by simpa using hg))
              simp only [acts, Act.put, List.getD_cons_zero, List.getD_cons_succ, List.setIfInBounds_toArray, List.set_cons_zero, List.set_cons_succ]
            refine StepsX.cons (some 42) rfl rfl (fun y wx D hg hF hno K hK => ?_) ?_
            · simp only [acts, Act.put, List.getD_cons_zero, List.getD_cons_succ, List.setIfInBounds_toArray, List.set_cons_zero, List.set_cons_succ]
              go_simp
              refine hK.out _ _ (afterX_mk (.int .i64 j : Value) ?_ rfl (by simpa using hg))
              simp only [acts, Act.put, List.getD_cons_zero, List.getD_cons_succ, List.setIfInBounds_toArray, List.set_cons_zero, List.set_cons_succ]
            refine StepsX.cons (some 43) rfl rfl (fun y wx D hg hF hno K hK => ?_) ?_
            · have f0 : y 0 = (.slice (some ⟨gV, 0, none⟩) m capV : Value) := (hF 0 (by kernel_rfl)).2
              have f1 : y 1 = (.int .i64 j : Value) := (hF 1 (by kernel_rfl)).2
              simp only [acts, Act.put, List.getD_cons_zero, List.getD_cons_succ, List.setIfInBounds_toArray, List.set_cons_zero, List.set_cons_succ]
              go_simp
              refine hK.out _ _ (afterX_mk (.pointer (some ⟨gV, j * 5, none⟩) : Value) ?_ rfl (by simpa using hg))
              simp only [acts, Act.put, List.getD_cons_zero, List.getD_cons_succ, List.setIfInBounds_toArray, List.set_cons_zero, List.set_cons_succ]
              try simp only [f0, f1]
            refine StepsX.cons (some 44) rfl rfl (fun y wx D hg hF hno K hK => ?_) ?_
            · have f2 : y 2 = (.pointer (some ⟨gV, j * 5, none⟩) : Value) := (hF 2 (by kernel_rfl)).2
              replace c0 := cell_keep hg.1 c0
              replace c1 := cell_keep hg.1 c1
              replace c2 := cell_keep hg.1 c2
              replace c3 := cell_keep hg.1 c3
              replace c4 := cell_keep hg.1 c4
              simp only [acts, Act.put, List.getD_cons_zero, List.getD_cons_succ, List.setIfInBounds_toArray, List.set_cons_zero, List.set_cons_succ]
              go_simp
              refine hK.out _ _ (afterX_mk (.agg #[.int .i64 o.id, .int .i64 o.bal, .int .i64 o.lost, .int .i64 o.late, .bool o.over] : Value) ?_ rfl (by simpa using hg))
              simp only [acts, Act.put, List.getD_cons_zero, List.getD_cons_succ, List.setIfInBounds_toArray, List.set_cons_zero, List.set_cons_succ]
              try simp only [f2]
            refine StepsX.cons (some 45) rfl rfl (fun y wx D hg hF hno K hK => ?_) ?_
            · replace x0 := cell_keep hg.1 x0
              replace x1 := cell_keep hg.1 x1
              replace x2 := cell_keep hg.1 x2
              replace x3 := cell_keep hg.1 x3
              replace x4 := cell_keep hg.1 x4
              replace x5 := cell_keep hg.1 x5
              replace x6 := cell_keep hg.1 x6
              simp only [acts, Act.put, List.getD_cons_zero, List.getD_cons_succ, List.setIfInBounds_toArray, List.set_cons_zero, List.set_cons_succ]
              go_simp
              refine hK.out _ _ (afterX_mk (.agg #[.int .i64 x.id, .int .i64 x.pr, .int .i64 x.pp, .int .i64 x.it, .int .i64 x.rc, .int .i64 x.lt, .bool x.df] : Value) ?_ rfl (by simpa using hg))
              simp only [acts, Act.put, List.getD_cons_zero, List.getD_cons_succ, List.setIfInBounds_toArray, List.set_cons_zero, List.set_cons_succ]
            refine StepsX.cons (some 46) rfl rfl (fun y wx D hg hF hno K hK => ?_) ?_
            · have f3 : y 3 = (.agg #[.int .i64 o.id, .int .i64 o.bal, .int .i64 o.lost, .int .i64 o.late, .bool o.over] : Value) := (hF 3 (by kernel_rfl)).2
              have f4 : y 4 = (.agg #[.int .i64 x.id, .int .i64 x.pr, .int .i64 x.pp, .int .i64 x.it, .int .i64 x.rc, .int .i64 x.lt, .bool x.df] : Value) := (hF 4 (by kernel_rfl)).2
              simp only [acts, Act.put, List.getD_cons_zero, List.getD_cons_succ, List.setIfInBounds_toArray, List.set_cons_zero, List.set_cons_succ]
              go_simp
              try simp only [f3, f4]
              refine (after_any o x B hof hok hB _).mono ?_
              rintro e w5 ⟨rfl, d5⟩
              rw [HV.out]
              refine hK.out _ _ (afterX_mk (.tuple #[.agg #[.int .i64 L.id, .int .i64 L.bal, .int .i64 L.lost, .int .i64 L.late, .bool L.over], .agg #[.int .i64 A.pr, .int .i64 A.it, .int .i64 A.ls, .int .i64 A.rc], .bool ok] : Value) ?_ rfl (by simpa using hg.below d5))
              simp only [acts, Act.put, List.getD_cons_zero, List.getD_cons_succ, List.setIfInBounds_toArray, List.set_cons_zero, List.set_cons_succ]
              try simp only [f3, f4]
            refine StepsX.cons (some 40) rfl rfl (fun y wx D hg hF hno K hK => ?_) ?_
            · have f5 : y 5 = (.tuple #[.agg #[.int .i64 L.id, .int .i64 L.bal, .int .i64 L.lost, .int .i64 L.late, .bool L.over], .agg #[.int .i64 A.pr, .int .i64 A.it, .int .i64 A.ls, .int .i64 A.rc], .bool ok] : Value) := (hF 5 (by kernel_rfl)).2
              simp only [acts, Act.put, List.getD_cons_zero, List.getD_cons_succ, List.setIfInBounds_toArray, List.set_cons_zero, List.set_cons_succ]
              go_simp
              refine hK.out _ _ (afterX_mk (.tuple #[.agg #[.int .i64 L.id, .int .i64 L.bal, .int .i64 L.lost, .int .i64 L.late, .bool L.over], .agg #[.int .i64 A.pr, .int .i64 A.it, .int .i64 A.ls, .int .i64 A.rc], .bool ok] : Value) ?_ rfl (by simpa using hg))
              simp only [acts, Act.put, List.getD_cons_zero, List.getD_cons_succ, List.setIfInBounds_toArray, List.set_cons_zero, List.set_cons_succ]
              try simp only [f5]
            refine StepsX.cons (some 47) rfl rfl (fun y wx D hg hF hno K hK => ?_) ?_
            · have f6 : y 6 = (.tuple #[.agg #[.int .i64 L.id, .int .i64 L.bal, .int .i64 L.lost, .int .i64 L.late, .bool L.over], .agg #[.int .i64 A.pr, .int .i64 A.it, .int .i64 A.ls, .int .i64 A.rc], .bool ok] : Value) := (hF 6 (by kernel_rfl)).2
              simp only [acts, Act.put, List.getD_cons_zero, List.getD_cons_succ, List.setIfInBounds_toArray, List.set_cons_zero, List.set_cons_succ]
              go_simp
              refine hK.out _ _ (afterX_mk (.agg #[.int .i64 L.id, .int .i64 L.bal, .int .i64 L.lost, .int .i64 L.late, .bool L.over] : Value) ?_ rfl (by simpa using hg))
              simp only [acts, Act.put, List.getD_cons_zero, List.getD_cons_succ, List.setIfInBounds_toArray, List.set_cons_zero, List.set_cons_succ]
              try simp only [f6]
            refine StepsX.cons (some 48) rfl rfl (fun y wx D hg hF hno K hK => ?_) ?_
            · have f6 : y 6 = (.tuple #[.agg #[.int .i64 L.id, .int .i64 L.bal, .int .i64 L.lost, .int .i64 L.late, .bool L.over], .agg #[.int .i64 A.pr, .int .i64 A.it, .int .i64 A.ls, .int .i64 A.rc], .bool ok] : Value) := (hF 6 (by kernel_rfl)).2
              simp only [acts, Act.put, List.getD_cons_zero, List.getD_cons_succ, List.setIfInBounds_toArray, List.set_cons_zero, List.set_cons_succ]
              go_simp
              refine hK.out _ _ (afterX_mk (.agg #[.int .i64 A.pr, .int .i64 A.it, .int .i64 A.ls, .int .i64 A.rc] : Value) ?_ rfl (by simpa using hg))
              simp only [acts, Act.put, List.getD_cons_zero, List.getD_cons_succ, List.setIfInBounds_toArray, List.set_cons_zero, List.set_cons_succ]
              try simp only [f6]
            refine StepsX.cons (some 49) rfl rfl (fun y wx D hg hF hno K hK => ?_) ?_
            · have f6 : y 6 = (.tuple #[.agg #[.int .i64 L.id, .int .i64 L.bal, .int .i64 L.lost, .int .i64 L.late, .bool L.over], .agg #[.int .i64 A.pr, .int .i64 A.it, .int .i64 A.ls, .int .i64 A.rc], .bool ok] : Value) := (hF 6 (by kernel_rfl)).2
              simp only [acts, Act.put, List.getD_cons_zero, List.getD_cons_succ, List.setIfInBounds_toArray, List.set_cons_zero, List.set_cons_succ]
              go_simp
              refine hK.out _ _ (afterX_mk (.bool ok : Value) ?_ rfl (by simpa using hg))
              simp only [acts, Act.put, List.getD_cons_zero, List.getD_cons_succ, List.setIfInBounds_toArray, List.set_cons_zero, List.set_cons_succ]
              try simp only [f6]
            refine StepsX.cons (some 12) rfl rfl (fun y wx D hg hF hno K hK => ?_) ?_
            · have h12 : D 12 = false := hno 12 (by kernel_rfl)
              simp only [acts, Act.put, List.getD_cons_zero, List.getD_cons_succ, List.setIfInBounds_toArray, List.set_cons_zero, List.set_cons_succ]
              go_simp
              refine hK.out _ _ (afterX_mk (.pointer (some ⟨wx.heap.size, 0, none⟩)) ?_ trivial (by simpa [h12] using hg.loan h12))
              simp only [acts, Act.put, List.getD_cons_zero, List.getD_cons_succ, List.setIfInBounds_toArray, List.set_cons_zero, List.set_cons_succ]
            refine StepsX.cons (some 13) rfl rfl (fun y wx D hg hF hno K hK => ?_) ?_
            · have h13 : D 13 = false := hno 13 (by kernel_rfl)
              simp only [acts, Act.put, List.getD_cons_zero, List.getD_cons_succ, List.setIfInBounds_toArray, List.set_cons_zero, List.set_cons_succ]
              go_simp
              refine hK.out _ _ (afterX_mk (.pointer (some ⟨wx.heap.size, 0, none⟩)) ?_ trivial (by simpa [h13] using hg.agg h13))
              simp only [acts, Act.put, List.getD_cons_zero, List.getD_cons_succ, List.setIfInBounds_toArray, List.set_cons_zero, List.set_cons_succ]
            refine StepsX.cons none rfl rfl (fun y wx D hg hF hno K hK => ?_) ?_
            · have h1 : D 10 = true := (hF 10 (by kernel_rfl)).1
              have f7 : y 7 = (.agg #[.int .i64 L.id, .int .i64 L.bal, .int .i64 L.lost, .int .i64 L.late, .bool L.over] : Value) := (hF 7 (by kernel_rfl)).2
              have hz := NewG.atL hg h1
              clear hg hF hno
              have eg := hz.1
              have z0 := hz.2.1.1; have z1 := hz.2.1.2.1; have z2 := hz.2.1.2.2.1; have z3 := hz.2.1.2.2.2.1; have z4 := hz.2.1.2.2.2.2
              have q0 := hz.2.2.1 0; have q1 := hz.2.2.1 1; have q2 := hz.2.2.1 2; have q3 := hz.2.2.1 3; have q4 := hz.2.2.1 4
              have hs := hz.2.2.2
              clear hz
              have hy : ptrOf (y 10) = ptrOf (y 10) := rfl
              generalize ptrOf (y 10) = g at hs eg z0 z1 z2 z3 z4 q0 q1 q2 q3 q4
              clear hy
              simp only [acts, Act.put, List.getD_cons_zero, List.getD_cons_succ, List.setIfInBounds_toArray, List.set_cons_zero, List.set_cons_succ]
              simp only [eg, f7]
              go_simp
              refine hK.out _ _ (afterX_mk undef ?_ trivial (by simpa [h1] using hs))
              simp only [acts, Act.put, List.getD_cons_zero, List.getD_cons_succ, List.setIfInBounds_toArray, List.set_cons_zero, List.set_cons_succ]
              try simp only [f7, eg]
            refine StepsX.cons none rfl rfl (fun y wx D hg hF hno K hK => ?_) ?_
            · have h1 : D 11 = true := (hF 11 (by kernel_rfl)).1
              have f8 : y 8 = (.agg #[.int .i64 A.pr, .int .i64 A.it, .int .i64 A.ls, .int .i64 A.rc] : Value) := (hF 8 (by kernel_rfl)).2
              have hz := NewG.atA hg h1
              clear hg hF hno
              have eg := hz.1
              have z0 := hz.2.1.1; have z1 := hz.2.1.2.1; have z2 := hz.2.1.2.2.1; have z3 := hz.2.1.2.2.2
              have q0 := hz.2.2.1 0; have q1 := hz.2.2.1 1; have q2 := hz.2.2.1 2; have q3 := hz.2.2.1 3
              have hs := hz.2.2.2
              clear hz
              have hy : ptrOf (y 11) = ptrOf (y 11) := rfl
              generalize ptrOf (y 11) = g at hs eg z0 z1 z2 z3 q0 q1 q2 q3
              clear hy
              simp only [acts, Act.put, List.getD_cons_zero, List.getD_cons_succ, List.setIfInBounds_toArray, List.set_cons_zero, List.set_cons_succ]
              simp only [eg, f8]
              go_simp
              refine hK.out _ _ (afterX_mk undef ?_ trivial (by simpa [h1] using hs))
              simp only [acts, Act.put, List.getD_cons_zero, List.getD_cons_succ, List.setIfInBounds_toArray, List.set_cons_zero, List.set_cons_succ]
              try simp only [f8, eg]
            refine StepsX.cons (some 14) rfl rfl (fun y wx D hg hF hno K hK => ?_) ?_
            · have f9 : y 9 = (.bool ok : Value) := (hF 9 (by kernel_rfl)).2
              simp only [acts, Act.put, List.getD_cons_zero, List.getD_cons_succ, List.setIfInBounds_toArray, List.set_cons_zero, List.set_cons_succ]
              go_simp
              refine hK.out _ _ (afterX_mk (.bool ok : Value) ?_ rfl (by simpa using hg))
              simp only [acts, Act.put, List.getD_cons_zero, List.getD_cons_succ, List.setIfInBounds_toArray, List.set_cons_zero, List.set_cons_succ]
              try simp only [f9]
            exact StepsX.nil
          · intro y wx hy hg
            have f14 : y 14 = (.bool ok : Value) := hy 14 (by decide)
            have hz := NewG.all hg
            have eg := hz.1
            have eh := hz.2.1
            have hz2 := hz.2.2
            clear hz hg hy
            generalize ptrOf (y 10) = g at eg hz2
            generalize ptrOf (y 11) = h at eh hz2
            simp only [acts, Act.put, List.getD_cons_zero, List.getD_cons_succ, List.setIfInBounds_toArray, List.set_cons_zero, List.set_cons_succ]
            simp only [f14, eg, eh]
            go_wp2_with fail
            go_meet
            case rel => exact ⟨_, _, rfl, rfl, rfl, hz2⟩
        case rest =>
          obtain ⟨g, h, rfl, rfl, rfl, hgw, hhw, hb5, bg, bh⟩ := hcut
          have hI5 := hI.then hb5
          clear c0 c1 c2 c3 c4 x0 x1 x2 x3 x4 x5 x6 hLs2 HV
          rcases HA.out with ⟨rfl, hmay⟩ | ⟨rfl, hmay, rfl, rfl⟩
          · have bR := hI5.res
            have f0 := bR.frozen 0; have f1 := bR.frozen 1; have f2 := bR.frozen 2; have f3 := bR.frozen 3
            have y0 := bR.cell 0 _ rfl; have y1 := bR.cell 1 _ rfl; have y2 := bR.cell 2 _ rfl; have y3 := bR.cell 3 _ rfl
            clear hI hv1 hv2 bg bh hgw hhw
            go_wp2
            exact app_refuse hI5.below hR bR _ rfl rfl (by rw [HF.out, ← HS2.out, restP_no hat ho hmay])
          · obtain ⟨c0, c1, c2, c3, c4⟩ := own_loan hI5.own hI5.len ho
            have fz := hI5.own.frozenAt
            have f0 := fz (j * 5); have f1 := fz (j * 5 + 1); have f2 := fz (j * 5 + 2); have f3 := fz (j * 5 + 3); have f4 := fz (j * 5 + 4)
            have z0 := bg.cell 0 _ rfl; have z1 := bg.cell 1 _ rfl; have z2 := bg.cell 2 _ rfl; have z3 := bg.cell 3 _ rfl; have z4 := bg.cell 4 _ rfl
            have hgV : g ≠ gV := by omega
            have hhV : h ≠ gV := by omega
            have hAV : gA ≠ gV := fun e => hvA (by rw [e]; rfl)
            have hRV : gR ≠ gV := by omega
            clear fz hI
            go_upto_region 15 with fail
            refine wp_letter (fun wx => AppI w w1 wx gR gA m (.slice (some ⟨gV, 0, none⟩) m capV) B k (q.set j (doP o x)) ag ∧ Blk wx h 27 (aggP o x).f) ⟨hI5.put ho (doP_wf hof hok hmay) rfl (by omega) hAV hRV, bh.set_other _ _ hhV _ |>.set_other _ _ hhV _ |>.set_other _ _ hhV _ |>.set_other _ _ hhV _ |>.set_other _ _ hhV _⟩ ?_
            clear hI5 bg bh c0 c1 c2 c3 c4 f0 f1 f2 f3 f4 z0 z1 z2 z3 z4
            rintro Y ⟨hI, bh⟩
            have y0 := hI.agg.cell 0 _ rfl; have y1 := hI.agg.cell 1 _ rfl; have y2 := hI.agg.cell 2 _ rfl; have y3 := hI.agg.cell 3 _ rfl
            have z0 := bh.cell 0 _ rfl; have z1 := bh.cell 1 _ rfl; have z2 := bh.cell 2 _ rfl; have z3 := bh.cell 3 _ rfl
            have hbd := aggP_bd hof hB hok hmay
            have hbd2 := hI.bd
            have hk64 : k < 64 := by
              have := rightT_len HT.out
              have := HN.out
              omega
            go_upto_region 16 with (go_at_call 27; refine (aplus_any ag (aggP o x) _ _ hbd2 hbd (by omega) _).mono ?_; rintro e w6 ⟨rfl, d6⟩; have hI6 := hI.then d6; have u0 := hI6.agg.cell 0 _ rfl; have u1 := hI6.agg.cell 1 _ rfl; have u2 := hI6.agg.cell 2 _ rfl; have u3 := hI6.agg.cell 3 _ rfl; have f0 := hI6.agg.frozen 0; have f1 := hI6.agg.frozen 1; have f2 := hI6.agg.frozen 2; have f3 := hI6.agg.frozen 3; unfold AggP.v AggP.plus)
            have HI7 := hI6.more hbd hvA (by omega) (by omega)
            clear hI hI6 bh y0 y1 y2 y3 z0 z1 z2 z3 u0 u1 u2 u3 f0 f1 f2 f3
            go_wp2
            go_roundw
            case rel => exact ⟨k + 1, q.set j (doP o x), ag.plus (aggP o x), by omega, by go_num, by rw [← restP_yes hat ho hmay]; exact HS2.out, HI7⟩
            case measure => simp [intOf]; omega
    · obtain rfl : k = n := by omega
      have e : xs.drop k = [] := List.drop_eq_nil_of_le (by have := HN.out; omega)
      have HE : Hid (applyP p xs = some (q, ag)) := by
        show _ = _
        rw [HF.out, ← HS.out, e, restP_nil]
      obtain ⟨v9, bP⟩ := HB.out _ hI.below
      have p0 := bP.cell 0 _ rfl
      have pf := bP.frozen 0
      have bR := hI.res
      have f0 := bR.frozen 0; have f1 := bR.frozen 1; have f2 := bR.frozen 2; have f3 := bR.frozen 3
      have r0 := bR.cell 0 _ rfl; have r1 := bR.cell 1 _ rfl; have r2 := bR.cell 2 _ rfl; have r3 := bR.cell 3 _ rfl
      have y0 := hI.agg.cell 0 _ rfl; have y1 := hI.agg.cell 1 _ rfl; have y2 := hI.agg.cell 2 _ rfl; have y3 := hI.agg.cell 3 _ rfl
      have hbA : b ≠ gA := by omega
      have hbR : b ≠ gR := by omega
      have hvR : v.ownBlock ≠ some gR := fun e => by have := (hI.own.lt gR e).1; omega
      clear HS e
      rcases own_shape hI.own with rfl | ⟨capV, gV, rfl⟩
      · go_wp2
        exact app_done (S := fun q a => applyP p xs = some (q, a)) hI bP bw hR hw1 hvR _ rfl _ rfl rfl HE.out
      · go_wp2
        exact app_done (S := fun q a => applyP p xs = some (q, a)) hI bP bw hR hw1 hvR _ rfl _ rfl rfl HE.out
end Go.Proofs.Ytoijgognbfifbaa
