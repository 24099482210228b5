/-
  Loans of numbers in a row; rows of them that grow; new variables of Buckets; contracts with what follows.
-/
import Derived.Test.YtbppaomenhdjeaaLateRunsWalk
import Derived.Test.YtbppaomenhdjeaaShapeLies
import Derived.Test.YtbppaomenhdjeaaBook
import Derived.Test.YtbppaomenhdjeaaOrd
namespace Go.Proofs.Ytbppaomenhdjeaa
open Go.RowKit

/-- The i-th loan of numbers. -/
def mkL (B M : Int) (bs ms : List Int) (i : Nat) : LoanP := ⟨0, 0 + bs.getD i 0 % (B - 0 + 1), 0, if i < ms.length then 0 + ms.getD i 0 % (M - 0 + 1) else 0, false⟩
/-- The first j of them. -/
def mkLs (g : Nat → LoanP) (j : Nat) : List LoanP := (List.range j).map g
theorem mkLs_len (g : Nat → LoanP) (j : Nat) : (mkLs g j).length = j := by simp [mkLs]
theorem mkLs_next (g : Nat → LoanP) (j : Nat) : mkLs g (j + 1) = mkLs g j ++ [g j] := by simp [mkLs, List.range_succ]
theorem mkLs_zero (g : Nat → LoanP) : mkLs g 0 = [] := rfl
theorem mkLs_mem {g : Nat → LoanP} {j : Nat} {p : LoanP → Prop} (h : ∀ i, p (g i)) : ∀ x ∈ mkLs g j, p x := by
  intro x hx
  simp only [mkLs, List.mem_map] at hx
  obtain ⟨i, _, rfl⟩ := hx
  exact h i
theorem within_bd (n hi : Int) (h : 0 ≤ hi) : 0 ≤ 0 + n % (hi - 0 + 1) ∧ 0 + n % (hi - 0 + 1) ≤ hi := by
  have h1 := Int.emod_nonneg n (b := hi - 0 + 1) (by omega)
  have h2 := Int.emod_lt_of_pos n (b := hi - 0 + 1) (by omega)
  omega
theorem mkL_bal {B M : Int} {bs ms : List Int} (h : 0 ≤ B) (i : Nat) : 0 ≤ (mkL B M bs ms i).bal ∧ (mkL B M bs ms i).bal ≤ B := within_bd _ B h
theorem mkL_late {B M : Int} {bs ms : List Int} (h : 0 ≤ M) (i : Nat) : 0 ≤ (mkL B M bs ms i).late ∧ (mkL B M bs ms i).late ≤ M := by
  unfold mkL
  simp only
  split
  · exact within_bd _ M h
  · omega
/-- One number of a slice. -/
theorem Lies.int1 {w : World} {a : Option Addr} {n cap : Nat} {zs : List Int} (h : Lies 1 intF w (.slice a n cap) zs) (k : Nat) (hk : k < n) :
    ∃ b off, a = some ⟨b, off, none⟩ ∧ w.cell? ⟨b, off + k, none⟩ = some (.int .i64 (zs.getD k 0)) := by
  obtain ⟨b, off, rfl, hc⟩ := h.place (by omega)
  have hl := h.len
  have hx : zs[k]? = some (zs[k]'(by omega)) := List.getElem?_eq_getElem (by omega)
  have c := hc k _ hx 0 _ rfl
  rw [Nat.mul_one, Nat.add_zero] at c
  refine ⟨b, off, rfl, ?_⟩
  rw [c, List.getD_eq_getElem?_getD, hx]
  rfl
theorem Try.info_loan : (Try.prog.info? 29).map (fun i => (i.zero, i.size, i.bytes)) = some (some (.agg #[.int .i64 0, .int .i64 0, .int .i64 0, .int .i64 0, .bool false]), 5, 40) := by kernel_rfl
theorem Try.info_rloan : (Try.prog.info? 37).map (fun i => (i.zero, i.size, i.bytes)) = some (some (.agg #[.int .i64 0, .int .i64 0, .int .i64 0, .int .i64 0, .bool false]), 5, 40) := by kernel_rfl
theorem info_parts {P : Program} {t : TypeId} {z : Value} {s b : Nat} (h : (P.info? t).map (fun i => (i.zero, i.size, i.bytes)) = some (some z, s, b)) : ∃ i, P.info? t = some i ∧ i.zero = some z ∧ i.size = s ∧ i.bytes = b := by
  cases hi : P.info? t with
  | none => rw [hi] at h; simp at h
  | some i =>
    rw [hi] at h
    simp only [Option.map_some, Option.some.injEq, Prod.mk.injEq] at h
    exact ⟨i, rfl, h.1, h.2.1, h.2.2⟩

/-- Two rows that grow beside each other: the pool's loans and the document's own. -/
structure TwoL (w wx : World) (v y : Value) (j i : Nat) (g : Nat → LoanP) : Prop where
  below : Below w.heap.size w wx
  now : wx.ownsRow w.heap.size 29 5 v j ((mkLs g j).flatMap LoanP.f)
  own : wx.ownsRow w.heap.size 37 5 y i ((mkLs g i).flatMap LoanP.f)
  apart : ∀ b, v.ownBlock = some b → y.ownBlock ≠ some b
theorem TwoL.then {w wx wy : World} {v y : Value} {j i : Nat} {g : Nat → LoanP} (h : TwoL w wx v y j i g) (k : Below wx.heap.size wx wy) : TwoL w wy v y j i g := ⟨below_then h.below k, own_below h.now k, own_below h.own k, h.apart⟩
theorem TwoL.now1 {w wx w2 : World} {v v' y : Value} {j i : Nat} {g : Nat → LoanP} (h : TwoL w wx v y j i g) (ow : w2.ownsRow w.heap.size 29 5 v' (j + 1) ((mkLs g j).flatMap LoanP.f ++ (g j).f)) (gr : wx.grownBy w2 v.ownBlock) (ob : v'.ownBlock = v.ownBlock ∨ v'.ownBlock = some wx.heap.size) : TwoL w w2 v' y (j + 1) i g := by
  refine ⟨below_grown h.below gr (fun k e => (h.now.lt k e).1), ?_, own_same h.own fun b hb => gr.block b (h.own.lt b hb).2 (fun e => h.apart b e.symm hb), fun b hb hy => ?_⟩
  · rw [mkLs_next]
    exact own_more _ ow
  · rcases ob with e | e
    · exact h.apart b (e ▸ hb) hy
    · rw [e] at hb
      injection hb with hb
      have := (h.own.lt b hy).2
      omega
theorem TwoL.own1 {w wx w2 : World} {v y y' : Value} {j i : Nat} {g : Nat → LoanP} (h : TwoL w wx v y j i g) (ow : w2.ownsRow w.heap.size 37 5 y' (i + 1) ((mkLs g i).flatMap LoanP.f ++ (g i).f)) (gr : wx.grownBy w2 y.ownBlock) (ob : y'.ownBlock = y.ownBlock ∨ y'.ownBlock = some wx.heap.size) : TwoL w w2 v y' j (i + 1) g := by
  refine ⟨below_grown h.below gr (fun k e => (h.own.lt k e).1), own_same h.now fun b hb => gr.block b (h.now.lt b hb).2 (fun e => h.apart b hb e.symm), ?_, fun b hb hy => ?_⟩
  · rw [mkLs_next]
    exact own_more _ ow
  · rcases ob with e | e
    · exact h.apart b hb (e ▸ hy)
    · rw [e] at hy
      injection hy with hy
      have := (h.now.lt b hb).2
      omega
theorem TwoL.nil (w : World) (g : Nat → LoanP) : TwoL w w (.slice none 0 0) (.slice none 0 0) 0 0 g := ⟨Below.refl _ _, World.ownsRow_nil _ _ _ _, World.ownsRow_nil _ _ _ _, fun g h => by simp [Value.ownBlock] at h⟩

/-- A new variable of Buckets. -/
def NewB (N : Nat) (v : Value) (w : World) : Prop := ∃ g, v = .pointer (some ⟨g, 0, none⟩) ∧ N ≤ g ∧ Blk w g 24 BkT.zero.f
theorem newB_bears (N : Nat) : Bears (NewB N) := fun _ _ _ ⟨g, e, h, k⟩ b => ⟨g, e, h, k.then b⟩
theorem newB_ne {N : Nat} {v : Value} {w : World} (h : NewB N v w) : v ≠ .pointer (some ⟨w.heap.size, 0, none⟩) := by
  obtain ⟨g, rfl, _, k⟩ := h
  have := k.lt
  intro e
  injection e with e
  injection e with e
  injection e with e
  omega
/-- Three new variables, as they stand when all has come up. -/
structure New3 (N : Nat) (wx : World) (p q r : Value) (g h k : Nat) : Prop where
  p : p = .pointer (some ⟨g, 0, none⟩)
  q : q = .pointer (some ⟨h, 0, none⟩)
  r : r = .pointer (some ⟨k, 0, none⟩)
  ng : N ≤ g
  nh : N ≤ h
  nk : N ≤ k
  gh : g ≠ h
  gk : g ≠ k
  hk : h ≠ k
  bg : Blk wx g 24 BkT.zero.f
  bh : Blk wx h 24 BkT.zero.f
  bk : Blk wx k 24 BkT.zero.f
theorem new3_of {N : Nat} {wx : World} {p q r : Value} (n0 : NewB N p wx) (n1 : NewB N q wx) (n2 : NewB N r wx) (pq : p ≠ q) (pr : p ≠ r) (qr : q ≠ r) :
    ∃ m : Nat × Nat × Nat, New3 N wx p q r m.1 m.2.1 m.2.2 := by
  obtain ⟨g, rfl, hg, kg⟩ := n0
  obtain ⟨h, rfl, hh, kh⟩ := n1
  obtain ⟨k, rfl, hk, kk⟩ := n2
  exact ⟨⟨g, h, k⟩, rfl, rfl, rfl, hg, hh, hk, fun e => pq (congrArg (fun n : Nat => Value.pointer (some ⟨n, 0, none⟩)) e), fun e => pr (congrArg (fun n : Nat => Value.pointer (some ⟨n, 0, none⟩)) e), fun e => qr (congrArg (fun n : Nat => Value.pointer (some ⟨n, 0, none⟩)) e), kg, kh, kk⟩

/-- Of, its outcome as a letter, with what follows. -/
theorem lof_e {v : Value} {xs : List LoanP} {X : BkT} {w : World} {R : Ending → World → Prop} (e : bkts xs = X) (h : Lies 5 LoanP.f w v xs) (ha : ∀ x ∈ xs, 0 ≤ x.bal ∧ x.bal ≤ 1099511627776) (hl : xs.length ≤ 1000) (k : ∀ w', Below w.heap.size w w' → R (.returned (.agg #[.int .i64 X.a, .int .i64 X.b, .int .i64 X.c, .int .i64 X.d])) w') : Calls Try.prog 9 #[v] w R :=
  (lof_any v xs w h ha hl).mono fun e1 w' ⟨e2, b⟩ => by
    rw [e] at e2
    exact e2 ▸ k w' b
theorem from_k {t : BkT} {k F : Int} (e : t.from k = F) (ht : t.Bd 1152921504606846976) (h0 : -9223372036854775808 ≤ k) (h1 : k ≤ 9223372036854775807) : ∀ (w : World) (R : Ending → World → Prop), (∀ w', Below w.heap.size w w' → R (.returned (.int .i64 F)) w') → Calls Try.prog 13 #[(.agg #[.int .i64 t.a, .int .i64 t.b, .int .i64 t.c, .int .i64 t.d]), .int .i64 k] w R := fun w R kk =>
  (from_any t k ht h0 h1 w).mono fun e1 w' ⟨e2, b⟩ => by
    rw [e] at e2
    exact e2 ▸ kk w' b
theorem ball_k {t : BkT} {F : Int} (e : t.all = F) (ht : t.Bd 1152921504606846976) : ∀ (w : World) (R : Ending → World → Prop), (∀ w', Below w.heap.size w w' → R (.returned (.int .i64 F)) w') → Calls Try.prog 14 #[(.agg #[.int .i64 t.a, .int .i64 t.b, .int .i64 t.c, .int .i64 t.d])] w R := fun w R kk =>
  (ball_any t ht w).mono fun e1 w' ⟨e2, b⟩ => by
    rw [e] at e2
    exact e2 ▸ kk w' b
theorem lateRuns_k : ∀ (w : World) (R : Ending → World → Prop), (∀ w', Below w.heap.size w w' → R (.returned (.bool true)) w') → Calls Try.prog 3 #[] w R := fun w _ k =>
  (lateRuns_any w).mono fun _ w' ⟨e2, b⟩ => e2 ▸ k w' b
theorem BkT.Bd.mono {t : BkT} {B C : Int} (h : t.Bd B) (k : B ≤ C) : t.Bd C := by
  obtain ⟨t1, t2, t3, t4, t5, t6, t7, t8⟩ := h
  exact ⟨t1, by omega, t3, by omega, t5, by omega, t7, by omega⟩
theorem BkT.at_plus (s t : BkT) (j : Nat) : (s.plus t).at j = s.at j + t.at j := by
  unfold BkT.at BkT.plus
  repeat' split
  all_goals rfl
theorem BkT.at_cell {wx : World} {g : Nat} {t : BkT} {T : TypeId} (k : Blk wx g T t.f) (j : Nat) (hj : j < 4) : wx.cell? ⟨g, j, none⟩ = some (.int .i64 (t.at j)) := k.cell j _ (by rcases (show j = 0 ∨ j = 1 ∨ j = 2 ∨ j = 3 by omega) with rfl | rfl | rfl | rfl <;> rfl)
theorem BkT.Bd.at {t : BkT} {B : Int} (h : t.Bd B) (j : Nat) : 0 ≤ t.at j ∧ t.at j ≤ B := by
  obtain ⟨t1, t2, t3, t4, t5, t6, t7, t8⟩ := h
  unfold BkT.at
  repeat' split
  all_goals omega
/-- Those of the first j from k on. -/
def BkT.acc (t : BkT) (k : Int) : Nat → Int
  | 0 => 0
  | j + 1 => if k ≤ j then t.acc k j + t.at j else t.acc k j
theorem BkT.acc_four (t : BkT) (k : Int) : t.acc k 4 = t.from k := by
  simp only [BkT.acc, BkT.at, BkT.from]
  by_cases h0 : k ≤ 0
  · rw [if_pos h0]; repeat rw [if_pos (by omega)]
    simp
  · by_cases h1 : k = 1
    · subst h1; simp
    · by_cases h2 : k = 2
      · subst h2; simp
      · by_cases h3 : k = 3
        · subst h3; simp
        · rw [if_neg h0, if_neg h1, if_neg h2, if_neg h3]
          repeat rw [if_neg (by omega)]
theorem BkT.acc_bd {t : BkT} {B : Int} (h : t.Bd B) (k : Int) : ∀ j : Nat, 0 ≤ t.acc k j ∧ t.acc k j ≤ j * B
  | 0 => by simp [BkT.acc]
  | j + 1 => by
    have ih := BkT.acc_bd h k j
    have a := h.at j
    have e : ((j + 1 : Nat) : Int) * B = j * B + B := by rw [Int.natCast_add, Int.add_mul]; simp
    rw [BkT.acc, e]
    split <;> omega
end Go.Proofs.Ytbppaomenhdjeaa
