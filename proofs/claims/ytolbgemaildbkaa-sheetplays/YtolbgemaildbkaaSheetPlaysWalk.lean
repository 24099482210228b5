/-
  The walk of SheetPlays.
-/
import Derived.Test.YtolbgemaildbkaaPlaysP
import Derived.Test.YtolbgemaildbkaaBookEnt
import Derived.Test.YtolbgemaildbkaaSheetRunsWalk
import Derived.Test.YtolbgemaildbkaaBook
namespace Go.Proofs.Ytolbgemaildbkaa
open Go.RowKit

/-- What is asked, as it lies there: a slice of entries, three numbers, two bools. -/
structure AskT where
  v : Value
  fr : Int
  t : Int
  n : Int
  mv : Bool
  bl : Bool
def AskT.f (x : AskT) : List Value := [x.v, .int .i64 x.fr, .int .i64 x.t, .int .i64 x.n, .bool x.mv, .bool x.bl]
def AskT.ok (w : World) (x : AskT) : Prop := (∃ qs, Lies 2 Ent.f w x.v qs ∧ ∀ e ∈ qs, I64 e.acc ∧ I64 e.amt) ∧ I64 x.fr ∧ I64 x.t ∧ I64 x.n
theorem arg_asks {w : World} {v : Value} (h : Arg w (.slice 6 (.struct (.cons 1 (.slice 2 (.struct (.cons 1 (.int .i64) (.cons 1 (.int .i64) .nil)))) (.cons 1 (.int .i64) (.cons 1 (.int .i64) (.cons 1 (.int .i64) (.cons 1 .bool (.cons 1 .bool .nil)))))))) v) :
    ∃ xs : List AskT, Lies 6 AskT.f w v xs ∧ ∀ x ∈ xs, x.ok w :=
  holds_list AskT.f (AskT.ok w) (fun cs hc => by
    obtain ⟨_, _, rfl, l0, h0, _, _, rfl, _, ⟨a, rfl, ha⟩, _, _, rfl, _, ⟨b, rfl, hb⟩, _, _, rfl, _, ⟨c, rfl, hc⟩, _, _, rfl, _, ⟨d, rfl⟩, _, _, rfl, _, ⟨e, rfl⟩, rfl⟩ := hc
    obtain ⟨v, rfl⟩ := List.length_eq_one_iff.1 l0
    exact ⟨⟨v, a, b, c, d, e⟩, rfl, holds_list Ent.f (fun e => I64 e.acc ∧ I64 e.amt) (fun cs hc => by
      obtain ⟨a, b, rfl, ha, hb⟩ := holds_ints2 hc
      exact ⟨⟨a, b⟩, rfl, ha, hb⟩) h0, i64_of ha, i64_of hb, i64_of hc⟩) h

/-- The sheet so far, and what its accounts are to have. -/
structure PlInv (w wr : World) (A n : Nat) (vW : Value) (bal : List Int) (c : Int) : Prop where
  below : Below w.heap.size w wr
  sht : Sht wr A n bal c
  ok : ∀ x ∈ bal, amtOk x = true
  own : wr.ownsRow (A + 1) 3 1 vW n ((bal.take n).map (Value.int .i64))
theorem PlInv.then {w wr wx : World} {A n : Nat} {vW : Value} {bal : List Int} {c : Int} (h : PlInv w wr A n vW bal c) (k : Below wr.heap.size wr wx) : PlInv w wx A n vW bal c :=
  ⟨below_then h.below k, h.sht.then k, h.ok, own_below h.own k⟩

theorem ents_amt : ∀ (S : List Ent) (i : Nat) (ac am x : Int), S[i]? = some ⟨ac, am⟩ → (S.flatMap Ent.f).set (i * 2 + 1) (.int .i64 x) = (S.set i ⟨ac, x⟩).flatMap Ent.f
  | [], i, ac, am, x, h => by simp at h
  | y :: r, 0, ac, am, x, h => by
    simp only [List.getElem?_cons_zero, Option.some.injEq] at h
    subst h
    simp [Ent.f]
  | y :: r, i + 1, ac, am, x, h => by
    have := ents_amt r i ac am x (by simpa using h)
    simp only [List.flatMap_cons, Ent.f, List.cons_append, List.nil_append, List.set_cons_succ] at this ⊢
    rw [show (i + 1) * 2 = i * 2 + 1 + 1 by omega, List.set_cons_succ, this]
theorem within_to {n lo hi r : Int} (l0 : -4611686018427387904 ≤ lo) (h : lo ≤ hi) (h1 : hi ≤ 4611686018427387903) (d : hi - lo ≤ 4611686018427387903) (e : lo + n % (hi - lo + 1) = r) (w : World) :
    Calls Try.prog 14 #[.int .i64 n, .int .i64 lo, .int .i64 hi] w fun e w' => e = .returned (.int .i64 r) ∧ w' = w := by
  subst e
  exact within_any n lo hi l0 h h1 d w
theorem within_bd (n lo hi : Int) (h : lo ≤ hi) : lo ≤ lo + n % (hi - lo + 1) ∧ lo + n % (hi - lo + 1) ≤ hi := by
  have h1 := Int.emod_nonneg n (b := hi - lo + 1) (by omega)
  have h2 := Int.emod_lt_of_pos n (b := hi - lo + 1) (by omega)
  omega
/-- What the call owns is a source. -/
theorem own_src {w : World} {base : Nat} {e : TypeId} {size : Nat} {v : Value} {n : Nat} {xs : List Value} (h : w.ownsRow base e size v n xs) : Src w v n xs := by
  rcases h.2 with ⟨rfl, rfl⟩ | ⟨g, cap, cur, rfl, _⟩
  · have : xs = [] := List.eq_nil_of_length_eq_zero (by simpa using h.1)
    subst this
    exact ⟨none, 0, rfl, fun _ => ⟨rfl, rfl⟩, fun a ha => by simp at ha⟩
  · exact ⟨_, cap, rfl, fun e => by simp at e, fun a ha j u hj => by
      simp only [Option.some.injEq] at ha
      subst ha
      exact h.cells rfl j u hj⟩
theorem own_slice {w : World} {base : Nat} {e : TypeId} {size : Nat} {v : Value} {n : Nat} {xs : List Value} (h : w.ownsRow base e size v n xs) : ∃ a c, v = .slice a n c := by
  rcases h.2 with ⟨h1, h2⟩ | ⟨g, cp, cur, h1, _⟩
  · exact ⟨_, _, by rw [h1, h2]⟩
  · exact ⟨_, _, h1⟩
theorem own_cell {w : World} {base : Nat} {e : TypeId} {a : Option Addr} {n c : Nat} {xs : List Int} (h : w.ownsRow base e 1 (.slice a n c) n (xs.map (Value.int .i64))) (j : Nat) (hj : j < n) :
    ∃ g, a = some ⟨g, 0, none⟩ ∧ base ≤ g ∧ w.cell? ⟨g, j, none⟩ = some (.int .i64 (xs.getD j 0)) ∧ w.frozen? ⟨g, j, none⟩ = false ∧ ∀ x, (w.setCell ⟨g, j, none⟩ (.int .i64 x)).ownsRow base e 1 (.slice a n c) n ((xs.set j x).map (Value.int .i64)) := by
  have hl : xs.length = n := by simpa using h.1
  rcases id h.2 with ⟨_, h0⟩ | ⟨g, cp, cur, h1, hb, _⟩
  · omega
  · obtain ⟨rfl, rfl⟩ : a = some ⟨g, 0, none⟩ ∧ c = cp := by simpa using h1
    refine ⟨g, rfl, hb, ?_, h.frozenAt j, fun x => by rw [List.map_set]; exact (h.stored j _).1⟩
    have := h.cells (g := g) rfl j (.int .i64 (xs.getD j 0)) (by rw [List.getElem?_map, List.getElem?_eq_getElem (by omega)]; simp [hl, hj])
    rw [Addr.add_lit, Nat.zero_add] at this
    exact this
theorem own_ent {w : World} {base : Nat} {e : TypeId} {a : Option Addr} {n c : Nat} {E : List Ent} (h : w.ownsRow base e 2 (.slice a n c) n (E.flatMap Ent.f)) (hl : E.length = n) (q : Nat) (hq : q < n) :
    ∃ g ac am, a = some ⟨g, 0, none⟩ ∧ E[q]? = some ⟨ac, am⟩ ∧ w.cell? ⟨g, q * 2, none⟩ = some (.int .i64 ac) ∧ w.cell? ⟨g, q * 2 + 1, none⟩ = some (.int .i64 am) := by
  obtain ⟨b, off, ha, hc⟩ := (own_lies Ent.len h hl).place (by omega)
  rcases id h.2 with ⟨_, h0⟩ | ⟨g, cp, cur, h1, hb, _⟩
  · omega
  · have h2 : a = some ⟨g, 0, none⟩ := by
      have : a = some ⟨g, 0, none⟩ ∧ c = cp := by simpa using h1
      exact this.1
    rw [h2] at ha
    simp only [Option.some.injEq, Addr.mk.injEq] at ha
    obtain ⟨rfl, rfl, _⟩ := ha
    have hx : E[q]? = some (E[q]'(by omega)) := List.getElem?_eq_getElem (by omega)
    have c0 := hc q _ hx 0 _ rfl
    have c1 := hc q _ hx 1 _ rfl
    rw [Nat.zero_add, Nat.add_zero] at c0
    rw [Nat.zero_add] at c1
    exact ⟨g, _, _, h2, hx, c0, c1⟩
/-- Entries of which one may not be. -/
def badE (n : Nat) (ac am : Int) : Prop := am < -1152921504606846976 ∨ 1152921504606846976 < am ∨ ac < 0 ∨ (n : Int) ≤ ac
instance (n : Nat) (ac am : Int) : Decidable (badE n ac am) := inferInstanceAs (Decidable (_ ∨ _))
theorem scan_bad (n : Nat) (E : List Ent) (q : Nat) (ac am : Int) (hx : E[q]? = some ⟨ac, am⟩) (h : badE n ac am) : (allAmt E && accOk n E) = false := by
  have hm := List.mem_of_getElem? hx
  rcases h with h | h | h | h
  · rw [allAmt_false E _ hm (by simp only [amtOk, Bool.and_eq_false_iff, decide_eq_false_iff_not]; omega)]; rfl
  · rw [allAmt_false E _ hm (by simp only [amtOk, Bool.and_eq_false_iff, decide_eq_false_iff_not]; omega)]; rfl
  · rw [accOk_false n E _ hm (by simp only [Bool.and_eq_false_iff, decide_eq_false_iff_not]; omega)]; simp
  · rw [accOk_false n E _ hm (by simp only [Bool.and_eq_false_iff, decide_eq_false_iff_not]; omega)]; simp
/-- What the scan knows of the first q entries. -/
structure ScInv (Z wr : World) (aN : Option Addr) (n cN : Nat) (bal : List Int) (E : List Ent) (q : Nat) (S : Int) (xs : List Int) : Prop where
  amt : allAmt (E.take q) = true
  acc : accOk n (E.take q) = true
  sum : sumA (E.take q) = S
  lst : addAll (bal.take n) (E.take q) = xs
  own : wr.ownsRow Z.heap.size 3 1 (.slice aN n cN) n (xs.map (Value.int .i64))
  below : Below Z.heap.size Z wr
/-- What it tells. -/
def ScEnd (Z wx : World) (aN : Option Addr) (n cN m : Nat) (bal : List Int) (E : List Ent) (may : Bool) (S : Int) (xs : List Int) : Prop :=
  xs.length = n ∧ wx.ownsRow Z.heap.size 3 1 (.slice aN n cN) n (xs.map (Value.int .i64)) ∧ Below Z.heap.size Z wx ∧
    ((((allAmt E && accOk n E) = true) ∧ may = decide (0 < m) ∧ S = sumA E ∧ xs = addAll (bal.take n) E) ∨ ((allAmt E && accOk n E) = false ∧ may = false))
/-- The entries of which the first q were brought into bounds. -/
structure BalInv (V wr : World) (g m c q : Nat) (S : Int) (E : List Ent) : Prop where
  len : E.length = m
  i64 : ∀ e ∈ E, I64 e.amt
  small : ∀ i e, i < q → E[i]? = some e → -1099511627776 ≤ e.amt ∧ e.amt ≤ 1099511627776
  s0 : -(q * 1099511627776 : Int) ≤ S
  s1 : S ≤ q * 1099511627776
  own : wr.ownsRow V.heap.size 27 2 (.slice (some ⟨g, 0, none⟩) m c) m (E.flatMap Ent.f)
  below : Below V.heap.size V wr
theorem BalInv.at {V wr : World} {g m c q : Nat} {S : Int} {E : List Ent} (h : BalInv V wr g m c q S E) (i : Nat) (hi : i < m) : ∃ ac am, E[i]? = some ⟨ac, am⟩ ∧ I64 am ∧ wr.cell? ⟨g, i * 2 + 1, none⟩ = some (.int .i64 am) ∧ wr.frozen? ⟨g, i * 2 + 1, none⟩ = false := by
  have hx : E[i]? = some (E[i]'(by rw [h.len]; exact hi)) := List.getElem?_eq_getElem _
  refine ⟨_, _, hx, h.i64 _ (List.getElem_mem _), ?_, h.own.frozenAt _⟩
  have := h.own.cells (g := g) rfl (i * 2 + 1) _ (flat_at Ent.len E i 1 _ hx (by decide))
  rw [Addr.add_lit, Nat.zero_add] at this
  exact this
theorem BalInv.next {V wr : World} {g m c q : Nat} {S : Int} {E : List Ent} (h : BalInv V wr g m c q S E) (hg : V.heap.size ≤ g) (ac am Y : Int) (hx : E[q]? = some ⟨ac, am⟩) (y0 : -1099511627776 ≤ Y) (y1 : Y ≤ 1099511627776) :
    BalInv V (wr.setCell ⟨g, q * 2 + 1, none⟩ (.int .i64 Y)) g m c (q + 1) (S + Y) (E.set q ⟨ac, Y⟩) := by
  have s0 := h.s0; have s1 := h.s1
  refine ⟨by rw [List.length_set, h.len], fun e he => ?_, fun i e hi he => ?_, by rw [Int.natCast_add, Int.add_mul]; omega, by rw [Int.natCast_add, Int.add_mul]; omega, ?_, h.below.setCell hg _⟩
  · rcases List.mem_or_eq_of_mem_set he with he | rfl
    · exact h.i64 e he
    · exact ⟨by simp only; omega, by simp only; omega⟩
  · by_cases hq : i = q
    · subst hq
      rw [List.getElem?_set_self (List.getElem?_eq_some_iff.1 hx).1] at he
      simp only [Option.some.injEq] at he
      subst he
      exact ⟨y0, y1⟩
    · rw [List.getElem?_set_ne (Ne.symm hq)] at he
      exact h.small i e (by omega) he
  · have := (h.own.stored (q * 2 + 1) (.int .i64 Y)).1
    rw [ents_amt E q ac am Y hx] at this
    exact this

/-- What lies above block A is as it was where A alone was turned. -/
theorem own_rest {w w' : World} {A base : Nat} {e : TypeId} {m : Nat} {v : Value} {n : Nat} {xs : List Value} (h : w.ownsRow base e m v n xs) (k : Rest A w w') (hA : A < base) : w'.ownsRow base e m v n xs :=
  own_same h fun g hg => k.block g (h.lt g hg).2 (by have := (h.lt g hg).1; omega)
theorem lies_blk {w : World} {g : Nat} {t : TypeId} {S : List Ent} {n : Nat} (h : Blk w g t (S.flatMap Ent.f)) (hn : S.length = n) (hm : n ≤ maxLen) : Lies 2 Ent.f w (.slice (some ⟨g, 0, none⟩) n n) S := by
  subst hn
  refine ⟨_, S.length, rfl, Nat.le_refl _, hm, by simp, Or.inr ⟨g, 0, rfl, fun i x hi j u hj => ?_⟩⟩
  have hj2 : j < 2 := (List.getElem?_eq_some_iff.1 hj).1
  have := h.cell (i * 2 + j) u (by rw [flat_at Ent.len S i j x hi hj2]; exact hj)
  rw [Nat.zero_add]
  exact this
theorem fullE_take {E : List Ent} {mk : Ent} {m : Nat} (h : E.length = m) : (fullE E mk).take m = E := by rw [← h]; exact List.take_left
theorem fullE_length {E : List Ent} {mk : Ent} {m : Nat} (h : E.length = m) : (fullE E mk).length = m + 80 := by simp [fullE, h]

/-- What the law reckons is what Post tells. -/
theorem plays_all {Z wx : World} {aN : Option Addr} {n cN m : Nat} {bal : List Int} {E : List Ent} {may : Bool} {S : Int} {xs : List Int} (h : ScEnd Z wx aN n cN m bal E may S xs) (hl : E.length = m) (hm : m ≤ 6) (hb : ∀ x ∈ bal, amtOk x = true) (T B1 B2 : Bool)
    (e1 : (may && decide (S = 0) && T) = B1) (e2 : (B1 && xs.all amtOk) = B2) : B2 = (postB n bal E && T) := by
  obtain ⟨_, _, _, ⟨h1, h2, h3, h4⟩ | ⟨h1, h2⟩⟩ := h
  · rw [← e2, ← e1, h2, h3, h4, post_good n bal E (by omega) hb h1, hl]
    cases decide (0 < m) <;> cases decide (sumA E = 0) <;> cases T <;> simp
  · rw [← e2, ← e1, h2, post_bad n bal E h1]
    simp
/-- The sheet behind the post, where it was one. -/
theorem plays_next {n : Nat} {bal : List Int} (hl : bal.length = 64) (E : List Ent) (h : postB n bal E = true) : (addAll bal E).take n = addAll (bal.take n) E ∧ (∀ x ∈ addAll bal E, amtOk x = true) ∧ (addAll bal E).length = 64 := by
  have := post_ok n bal E h
  exact ⟨addAll_take n E bal ((accOk_iff n E).1 this.2.1), this.1, by rw [addAll_length, hl]⟩

set_option maxRecDepth 1000000 in
set_option maxHeartbeats 4000000 in
theorem sheetPlays_any (v0 v1 : Value) (w : World) (w0 : Arg w (.int .i64) v0) (w1 : Arg w (.slice 6 (.struct (.cons 1 (.slice 2 (.struct (.cons 1 (.int .i64) (.cons 1 (.int .i64) .nil)))) (.cons 1 (.int .i64) (.cons 1 (.int .i64) (.cons 1 (.int .i64) (.cons 1 .bool (.cons 1 .bool .nil)))))))) v1) :
    Calls Try.prog 4 #[v0, v1] w fun e w' => e = .returned (.bool true) ∧ Below w.heap.size w w' := by
  obtain ⟨i0, hi, hz0, hz1, hz2⟩ := info_parts Try.info_ints
  obtain ⟨j0, hj, hy0, hy1, hy2⟩ := info_parts Try.info_ent
  obtain ⟨acc, rfl, _⟩ := arg_int w0
  obtain ⟨asks, hL, hOk⟩ := arg_asks w1
  obtain ⟨a0, cap0, rfl, _, _, _, _⟩ := id hL
  obtain ⟨len0, hlen⟩ : ∃ l, asks.length = l := ⟨_, rfl⟩
  rw [hlen] at hL ⊢
  have hl := hL.len
  unfold maxLen at hl
  have HL0 : Hid (Lies 6 AskT.f w (.slice a0 len0 cap0) asks ∧ ∀ x ∈ asks, x.ok w) := ⟨hL, hOk⟩
  have hm : len0 ≤ 9223372036854775807 := by omega
  clear hL hOk w0 w1 hl hlen
  obtain ⟨n, hn⟩ : ∃ n, accN acc = n := ⟨_, rfl⟩
  have hn64 : n ≤ 64 := by rw [← hn]; unfold accN; omega
  obtain ⟨m, e1⟩ : ∃ m, max acc 0 = m := ⟨_, rfl⟩
  have e2 : min m 64 = (n : Int) := by rw [← e1, ← hn]; unfold accN; omega
  have e3 : (if acc < 0 then (0 : Int) else acc) = m := by rw [← e1]; split <;> omega
  have e4 : (if (64 : Int) < m then (64 : Int) else m) = n := by rw [← e2]; split <;> omega
  have HN : Hid (accN acc = n) := hn
  clear hn
  go_enter Try.func4, Try.ntmps4
  go_upto_region 5 with (go_at_call 8; refine (new_any _ _).mono ?_; rintro e wa ⟨rfl, sa, ba⟩; rw [HN.out] at sa)
  obtain ⟨A, hA⟩ : ∃ A, w.heap.size = A := ⟨_, rfl⟩
  have hA0 : w.heap.size ≤ A := Nat.le_of_eq hA
  rw [hA] at sa ⊢
  have hla := sa.lt
  clear hA e1 e2 e3 e4
  go_upto_region 6 with (at_make; refine wpList_make_full _ rfl _ _ 29 rfl (A + 1) 3 i0 (.int .i64 0) 1 Try.underlying29 hi hz0 hz1 .i64 .i64 _ _ n rfl rfl (by simp) (by simp) (by rw [hz2]; omega) (by unfold maxLen; omega) (by omega) ?_; intro w1 o1 g1)
  have hb1 : Below wa.heap.size wa w1 := below_grown (Below.refl _ _) g1 (fun k hk => by simp at hk)
  rw [made_zeros] at o1
  have hI0 : PlInv w w1 A n (.slice (some ⟨wa.heap.size, 0, none⟩) n n) (List.replicate 64 0) 0 := ⟨below_then ba hb1, sa.then hb1, zeros_ok 64, by rw [List.take_replicate, Nat.min_eq_left hn64]; exact o1⟩
  clear o1 g1 hb1 sa ba
  go_wp2_with fail
  go_loopw [7, 8, 9] (fun v s i wr => ∃ (k : Nat) (bal : List Int) (c : Int), k ≤ 20 ∧ i = .int .i64 k ∧ s = .int .i64 c ∧ 0 ≤ c ∧ c ≤ k ∧ PlInv w wr A n v bal c) (fun _ _ i _ => 20 - (intOf i).toNat)
  case atStart => exact ⟨0, List.replicate 64 0, 0, by omega, rfl, rfl, by omega, by omega, hI0⟩
  case round =>
  clear hI0
  obtain ⟨k, bal, c, hk, rfl, rfl, hc0, hc1, hI⟩ := hrel
  have HI : Hid (PlInv w wr A n u7 bal c) := hI
  clear hI
  by_cases g1 : k < len0
  · by_cases g2 : k < 20
    · have g3 : (k : Int) < (len0 : Int) := by omega
      obtain ⟨b, off, rfl, hc⟩ := HL0.out.1.place (by omega)
      have hlen := HL0.out.1.len
      have hx : asks[k]? = some (asks[k]'(by omega)) := List.getElem?_eq_getElem (by omega)
      obtain ⟨x, hx'⟩ : ∃ x, asks[k]'(by omega) = x := ⟨_, rfl⟩
      rw [hx'] at hx
      have hmem : x ∈ asks := List.mem_of_getElem? hx
      have cc := hc k x hx
      have hok := HL0.out.2 x hmem
      obtain ⟨vq, fr, t, N, mv, bl⟩ := x
      have k0 := cell_keep HI.out.below (cc 0 _ rfl); have k1 := cell_keep HI.out.below (cc 1 _ rfl); have k2 := cell_keep HI.out.below (cc 2 _ rfl)
      have k3 := cell_keep HI.out.below (cc 3 _ rfl); have k4 := cell_keep HI.out.below (cc 4 _ rfl); have k5 := cell_keep HI.out.below (cc 5 _ rfl)
      rw [Nat.add_zero] at k0
      simp only at k0 k1 k2 k3 k4 k5
      obtain ⟨⟨qs, hqs, hqi⟩, ifr, ito, iN⟩ := hok
      simp only at hqs ifr ito iN
      clear cc hmem hx hx' hc
      obtain ⟨aq, cq, rfl, q1, q2, q3, _⟩ := id hqs
      obtain ⟨lq, hlq⟩ : ∃ l, qs.length = l := ⟨_, rfl⟩
      rw [hlq] at hqs q1 k0
      unfold maxLen at q2
      have HQ : Hid (Lies 2 Ent.f w (.slice aq lq cq) qs ∧ (∀ e ∈ qs, I64 e.acc ∧ I64 e.amt) ∧ qs.length = lq) := ⟨hqs, hqi, hlq⟩
      clear hqs hqi hlq
      go_upto_region 11 with fail
      refine wp_letter (fun wx => PlInv w wx A n u7 bal c ∧ ∃ Q, wr.heap.size = Q ∧ A < Q ∧ Blk wx Q 36 (AskT.f ⟨.slice aq lq cq, fr, t, N, mv, bl⟩)) ⟨HI.out.then (below_alloc (Below.refl _ _) _), _, rfl, HI.out.sht.lt, Blk.fresh _ _ _⟩ ?_
      clear k0 k1 k2 k3 k4 k5 HI
      rintro V ⟨hV, Q, eQ, hAQ, hQ⟩
      rw [eQ]
      clear eQ
      have HV : Hid (PlInv w V A n u7 bal c ∧ Blk V Q 36 (AskT.f ⟨.slice aq lq cq, fr, t, N, mv, bl⟩)) := ⟨hV, hQ⟩
      have d0 := hQ.cell 0 _ rfl; have d1 := hQ.cell 1 _ rfl; have d2 := hQ.cell 2 _ rfl; have d3 := hQ.cell 3 _ rfl; have d4 := hQ.cell 4 _ rfl; have d5 := hQ.cell 5 _ rfl
      simp only at d0 d1 d2 d3 d4 d5
      have hQl := hQ.lt
      clear hV hQ
      obtain ⟨m6, hm6⟩ : ∃ m6 : Nat, min lq 6 = m6 := ⟨_, rfl⟩
      have e6 : (if (6 : Int) < (lq : Int) then (6 : Int) else (lq : Int)) = (m6 : Int) := by rw [← hm6]; split <;> omega
      have e7 : min (lq : Int) 6 = (m6 : Int) := by rw [← hm6]; omega
      have m60 : m6 ≤ 6 := by omega
      have m61 : m6 ≤ lq := by omega
      have m62 : (m6 : Int) ≤ (cq : Int) := by omega
      have m63 : (0 : Int) ≤ (m6 : Int) := by omega
      have O0 : Hid ((V.alloc (.cells #[] 27)).ownsRow V.heap.size 27 2 (.slice (some ⟨V.heap.size, 0, none⟩) 0 0) 0 []) := World.ownsRow_lit (base := V.heap.size) (size := 2) V #[] 0 (Nat.le_refl _) (by unfold maxLen; omega) rfl
      have B0 : Hid (Below V.heap.size V (V.alloc (.cells #[] 27))) := (Below.refl _ _).alloc (Nat.le_refl _) _
      have hlt6 : (qs.take m6).length = m6 := by rw [List.length_take, HQ.out.2.2]; omega
      have SX : Hid (Src (V.alloc (.cells #[] 27)) (.slice aq m6 cq) m6 ((qs.take m6).flatMap Ent.f)) := by
        have := ((HQ.out.1.take m6 m61).below (below_then HV.out.1.below B0.out)).src Ent.len (by omega)
        rw [hlt6] at this
        exact this
      have SL : Hid (((qs.take m6).flatMap Ent.f).length = m6 * 2) := by show _ = _; rw [flat_length Ent.len, hlt6]
      have HT6 : Hid ((qs.take m6).length = m6) := hlt6
      clear hlt6 hm6
      have D0 : (V.alloc (.cells #[] 27)).cell? ⟨Q, 0, none⟩ = some (.slice aq lq cq) := cell_keep B0.out d0
      go_upto_region 12 with (at_builtin; refine wpList_append_src rfl (.tmp 45) (.tmp 52) 34 rfl V.heap.size 27 j0 (.agg #[.int .i64 0, .int .i64 0]) 2 16 Try.underlying34 hj hy0 hy1 hy2 rfl (by decide) (.slice (some ⟨V.heap.size, 0, none⟩) 0 0) 0 [] rfl O0.out (.slice aq m6 cq) m6 ((qs.take m6).flatMap Ent.f) rfl SX.out SL.out (flat_one Ent.one) (by unfold maxLen; omega) (by omega) B0.out.size ?_; intro v5 w5 o5 g5 l5; have B5 : Hid (Below V.heap.size V w5) := (below_grown B0.out g5 (fun k h => by simp [Value.ownBlock] at h; omega)); have O5 : Hid (w5.ownsRow V.heap.size 27 2 v5 m6 ((qs.take m6).flatMap Ent.f)) := (by have := o5; rw [Nat.zero_add, List.nil_append] at this; exact this); clear o5 g5 l5)
      clear O0 B0 SX SL e6 e7
      replace d0 := cell_keep B5.out d0; replace d1 := cell_keep B5.out d1; replace d2 := cell_keep B5.out d2; replace d3 := cell_keep B5.out d3; replace d4 := cell_keep B5.out d4; replace d5 := cell_keep B5.out d5
      obtain ⟨av, cv, e5⟩ : ∃ a c, v5 = .slice a m6 c := by
        rcases O5.out.2 with ⟨h1, h2⟩ | ⟨g, cp, cur, h1, _⟩
        · exact ⟨_, _, by rw [h1, h2]⟩
        · exact ⟨_, _, h1⟩
      subst e5
      have HI64 : Hid (∀ e ∈ qs.take m6, I64 e.amt) := fun e he => (HQ.out.2.1 e (List.mem_of_mem_take he)).2
      rename_i aO kI aI
      have AO : PLift _ := ⟨aO⟩
      clear aO
      go_cut [60] (fun c wx => c = .bool (bl && decide (0 < m6)) ∧ w5 = wx)
      case first => as_aux_lemma =>
        clear AO aI
        cases bl with
        | false =>
          go_wp2
          go_meet
          case rel => exact ⟨rfl, rfl⟩
        | true =>
          go_wp2
          go_meet
          case rel => exact ⟨by simp, rfl⟩
      case rest =>
      obtain ⟨rfl, rfl⟩ := hcut
      go_upto_if 60 with fail
      go_cut [11] (fun v wx => ∃ E : List Ent, E.length = m6 ∧ (∀ e ∈ E, I64 e.amt) ∧ wx.ownsRow V.heap.size 27 2 v m6 (E.flatMap Ent.f) ∧ Below V.heap.size V wx)
      case first => as_aux_lemma =>
        clear AO
        cases hb : (bl && decide (0 < m6)) with
        | false =>
          go_wp2
          go_meet
          case rel => exact ⟨qs.take m6, HT6.out, HI64.out, O5.out, B5.out⟩
        | true =>
          have hm0 : 0 < m6 := by simp only [Bool.and_eq_true, decide_eq_true_eq] at hb; exact hb.2
          rcases O5.out.2 with ⟨_, h0⟩ | ⟨ge, ce, cur, h1, hge, _⟩
          · omega
          obtain ⟨rfl, rfl⟩ : av = some ⟨ge, 0, none⟩ ∧ cv = ce := by simpa using h1
          have hI0 : BalInv V w5 ge m6 cv 0 0 (qs.take m6) := ⟨HT6.out, HI64.out, fun i e h => by omega, by simp, by simp, O5.out, B5.out⟩
          clear h1 O5 hb
          go_wp2_with fail
          go_loopw [12, 63] (fun s i wr => ∃ (q : Nat) (S : Int) (E : List Ent), q ≤ m6 ∧ i = .int .i64 q ∧ s = .int .i64 S ∧ BalInv V wr ge m6 cv q S E) (fun _ i _ => m6 - (intOf i).toNat)
          case atStart => exact ⟨0, 0, _, by omega, rfl, rfl, hI0⟩
          case round =>
          clear hI0
          obtain ⟨q, S, E, hq, rfl, rfl, hB⟩ := hrel
          have HB : Hid (BalInv V wr ge m6 cv q S E) := hB
          have s0 : -6597069766656 ≤ S := by have := hB.s0; omega
          have s1 : S ≤ 6597069766656 := by have := hB.s1; omega
          clear hB
          by_cases hqm : q < m6
          · obtain ⟨ac, am, hx, hia, c0, f0⟩ := HB.out.at q hqm
            obtain ⟨Y, hY⟩ : ∃ Y, -1099511627776 + am % (1099511627776 - -1099511627776 + 1) = Y := ⟨_, rfl⟩
            have E1 : Hid (-1099511627776 + am % (1099511627776 - -1099511627776 + 1) = Y) := hY
            have hby := within_bd am (-1099511627776) 1099511627776 (by omega)
            rw [hY] at hby
            obtain ⟨y0, y1⟩ := hby
            have HX : Hid (E[q]? = some ⟨ac, am⟩) := hx
            have q0 : (0 : Int) ≤ (q : Int) := by omega
            have q1 : (q : Int) < (m6 : Int) := by omega
            have HN : Hid (BalInv V (wr.setCell ⟨ge, q * 2 + 1, none⟩ (.int .i64 Y)) ge m6 cv (q + 1) (S + Y) (E.set q ⟨ac, Y⟩)) := HB.out.next hge ac am Y hx y0 y1
            clear hY hx hia HB
            go_wp2_with (go_at_call 14; refine (within_to (by omega) (by omega) (by omega) (by omega) E1.out _).mono ?_; rintro e wq ⟨rfl, hq⟩; have hq := hq.symm; subst hq)
            go_roundw
            case rel => exact ⟨q + 1, S + Y, _, by omega, by go_num, rfl, HN.out⟩
            case measure => simp [intOf]; omega
          · have hqe : q = m6 := by omega
            obtain ⟨ac, am, hx, hia, c0, f0⟩ := HB.out.at 0 hm0
            obtain ⟨b0, b1⟩ := HB.out.small 0 _ (by omega) hx
            simp only [Nat.zero_mul, Nat.zero_add] at c0 f0 b0 b1
            have hown := (HB.out.own.stored 1 (.int .i64 (am - S))).1
            have he := ents_amt E 0 ac am (am - S) hx
            rw [Nat.zero_mul, Nat.zero_add] at he
            rw [he] at hown
            have HW : Hid (∃ E : List Ent, E.length = m6 ∧ (∀ e ∈ E, I64 e.amt) ∧ (wr.setCell ⟨ge, 1, none⟩ (.int .i64 (am - S))).ownsRow V.heap.size 27 2 (.slice (some ⟨ge, 0, none⟩) m6 cv) m6 (E.flatMap Ent.f) ∧ Below V.heap.size V (wr.setCell ⟨ge, 1, none⟩ (.int .i64 (am - S)))) :=
              ⟨E.set 0 ⟨ac, am - S⟩, by rw [List.length_set, HB.out.len], fun e he => by
                rcases List.mem_or_eq_of_mem_set he with he | rfl
                · exact HB.out.i64 e he
                · exact ⟨by simp only; omega, by simp only; omega⟩, hown, HB.out.below.setCell hge _⟩
            have hm1 : (0 : Int) < (m6 : Int) := by omega
            clear hown he hx hia HB hqe
            go_wp2
            go_meet
            case rel => exact HW.out
      case rest =>
      have aO := AO.down
      clear AO
      obtain ⟨E0, hE0, hI0, hO0, hB0⟩ := hcut
      clear O5 B5 HI64 HT6 D0 d0 d1 d2 d3 d4 d5
      have HE0 : Hid (E0.length = m6 ∧ (∀ e ∈ E0, I64 e.amt) ∧ wc.ownsRow V.heap.size 27 2 u11 m6 (E0.flatMap Ent.f) ∧ Below V.heap.size V wc) := ⟨hE0, hI0, hO0, hB0⟩
      have d3 := cell_keep hB0 (HV.out.2.cell 3 _ rfl); have d4 := cell_keep hB0 (HV.out.2.cell 4 _ rfl); have d1 := cell_keep hB0 (HV.out.2.cell 1 _ rfl); have d2 := cell_keep hB0 (HV.out.2.cell 2 _ rfl)
      simp only at d1 d2 d3 d4
      obtain ⟨N5, hN5⟩ : ∃ N5, max N (-5) = N5 := ⟨_, rfl⟩
      have e8 : (if N < -5 then (-5 : Int) else N) = N5 := by rw [← hN5]; split <;> omega
      have n50 : -5 ≤ N5 := by omega
      have n51 : N5 ≤ 9223372036854775807 := by have := iN.2; omega
      have e9 : IntKind.i64.wrap (-N5) = -N5 := wrap_in _ (by omega) (by omega)
      have HN5 : Hid (max N (-5) = N5) := hN5
      clear hE0 hI0 hO0 hB0
      go_upto_if 94 with fail
      rename_i aO2
      have AO : PLift _ := ⟨aO2⟩
      clear aO2
      go_cut [11] (fun v wx => ∃ (m : Nat) (E : List Ent), m ≤ 6 ∧ E.length = m ∧ (∀ e ∈ E, I64 e.amt) ∧ wx.ownsRow V.heap.size 27 2 v m (E.flatMap Ent.f) ∧ Below V.heap.size V wx ∧ (mv = true → E = moveE fr t N5))
      case first => as_aux_lemma =>
        clear AO
        cases mv with
        | false =>
          go_wp2
          go_meet
          case rel => exact ⟨m6, E0, m60, HE0.out.1, HE0.out.2.1, HE0.out.2.2.1, HE0.out.2.2.2, fun h => by cases h⟩
        | true =>
          have HO : Hid ((wc.alloc (.cells #[.int .i64 fr, .int .i64 (-N5), .int .i64 t, .int .i64 N5] 27)).ownsRow V.heap.size 27 2 (.slice (some ⟨wc.heap.size, 0, none⟩) 2 2) 2 ((moveE fr t N5).flatMap Ent.f)) := World.ownsRow_lit (base := V.heap.size) (size := 2) wc #[.int .i64 fr, .int .i64 (-N5), .int .i64 t, .int .i64 N5] 2 HE0.out.2.2.2.size (by unfold maxLen; omega) rfl
          have HB : Hid (Below V.heap.size V (wc.alloc (.cells #[.int .i64 fr, .int .i64 (-N5), .int .i64 t, .int .i64 N5] 27))) := below_alloc HE0.out.2.2.2 _
          have HII : Hid (∀ e ∈ moveE fr t N5, I64 e.amt) := fun e he => by
            simp only [moveE, List.mem_cons, List.not_mem_nil, or_false] at he
            rcases he with rfl | rfl <;> exact ⟨by simp only; omega, by simp only; omega⟩
          go_wp2
          go_meet
          case rel => exact ⟨2, moveE fr t N5, by omega, rfl, HII.out, HO.out, HB.out, fun _ => rfl⟩
      case rest =>
      have aO := AO.down
      clear AO
      obtain ⟨m, E, hm6, hEl, hEI, hEo, hEb, hEm⟩ := hcut
      obtain ⟨av, cv, e5⟩ := own_slice hEo
      subst e5
      have hVA : A < V.heap.size := HV.out.1.sht.lt
      go_upto_region 23 with fail
      rename_i aO2
      have AO : PLift _ := ⟨aO2⟩
      clear aO2
      refine wp_letter (fun wx => PlInv w wx A n u7 bal c ∧ Blk wx Q 36 (AskT.f ⟨.slice aq lq cq, fr, t, N, mv, bl⟩) ∧ wx.ownsRow V.heap.size 27 2 (.slice av m cv) m (E.flatMap Ent.f)) ⟨HV.out.1.then hEb, HV.out.2.then hEb, hEo⟩ ?_
      rintro Z ⟨hZ1, hZ2, hZ3⟩
      have HZ : Hid (PlInv w Z A n u7 bal c ∧ Blk Z Q 36 (AskT.f ⟨.slice aq lq cq, fr, t, N, mv, bl⟩) ∧ Z.ownsRow V.heap.size 27 2 (.slice av m cv) m (E.flatMap Ent.f)) := ⟨hZ1, hZ2, hZ3⟩
      have HE : Hid (E.length = m ∧ (∀ e ∈ E, I64 e.amt) ∧ (mv = true → E = moveE fr t N5)) := ⟨hEl, hEI, hEm⟩
      clear hZ1 hZ2 hZ3 hEl hEI hEo hEb hEm HE0 d1 d2 d3 d4 e8 e9 HQ
      have O0 : Hid ((Z.alloc (.cells #[] 3)).ownsRow Z.heap.size 3 1 (.slice (some ⟨Z.heap.size, 0, none⟩) 0 0) 0 []) := World.ownsRow_lit (base := Z.heap.size) (size := 1) Z #[] 0 (Nat.le_refl _) (by unfold maxLen; omega) rfl
      have B0 : Hid (Below Z.heap.size Z (Z.alloc (.cells #[] 3))) := (Below.refl _ _).alloc (Nat.le_refl _) _
      have SW : Hid (Src (Z.alloc (.cells #[] 3)) u7 n ((bal.take n).map (Value.int .i64))) := own_src (own_below HZ.out.1.own B0.out)
      have SL : Hid (((bal.take n).map (Value.int .i64)).length = n * 1) := by show _ = _; rw [List.length_map, List.length_take, HZ.out.1.sht.len]; omega
      go_upto_region 24 with (at_builtin; refine wpList_append_src rfl (.tmp 109) (.tmp 110) 29 rfl Z.heap.size 3 i0 (.int .i64 0) 1 8 Try.underlying29 hi hz0 hz1 hz2 rfl (by decide) (.slice (some ⟨Z.heap.size, 0, none⟩) 0 0) 0 [] rfl O0.out u7 n ((bal.take n).map (Value.int .i64)) rfl SW.out SL.out (ints_oneCell' _) (by unfold maxLen; omega) (by omega) B0.out.size ?_; intro v6 w6 o6 g6 l6; have B6 : Hid (Below Z.heap.size Z w6) := (below_grown B0.out g6 (fun k h => by simp [Value.ownBlock] at h; omega)); have O6 : Hid (w6.ownsRow Z.heap.size 3 1 v6 n ((bal.take n).map (Value.int .i64))) := (by have := o6; rw [Nat.zero_add, List.nil_append] at this; exact this); clear o6 g6 l6)
      obtain ⟨aN, cN, e6⟩ := own_slice O6.out
      subst e6
      clear O0 B0 SW SL
      have aO := AO.down
      clear AO
      go_upto_block 4 with fail
      rename_i aO2
      have AO : PLift _ := ⟨aO2⟩
      clear aO2
      have hI0 : ScInv Z w6 aN n cN bal E 0 0 (bal.take n) := ⟨rfl, rfl, rfl, rfl, O6.out, B6.out⟩
      have HI0 : Hid (ScInv Z w6 aN n cN bal E 0 0 (bal.take n)) := hI0
      have HBn : Hid ((bal.take n).length = n ∧ ∀ x ∈ bal.take n, -1152921504606846976 ≤ x ∧ x ≤ 1152921504606846976) := ⟨by rw [List.length_take, HZ.out.1.sht.len]; omega, fun x hx => (amtOk_iff x).1 (HZ.out.1.ok x (List.mem_of_mem_take hx))⟩
      obtain ⟨M0, hM0⟩ : ∃ M0, decide (0 < m) = M0 := ⟨_, rfl⟩
      have HM0 : Hid (decide (0 < m) = M0) := hM0
      clear hI0 O6 B6 hM0
      go_cut [15, 16] (fun a s wx => ∃ (may : Bool) (S : Int) (xs : List Int), a = .bool may ∧ s = .int .i64 S ∧ ScEnd Z wx aN n cN m bal E may S xs)
      case first => as_aux_lemma =>
        clear AO
        go_wp2_with fail
        go_loopw [15, 16, 117] (fun a s i wr => ∃ (q : Nat) (S : Int) (xs : List Int), q ≤ m ∧ i = .int .i64 q ∧ a = .bool M0 ∧ s = .int .i64 S ∧ ScInv Z wr aN n cN bal E q S xs) (fun _ _ i _ => m - (intOf i).toNat)
        case atStart => exact ⟨0, 0, _, by omega, rfl, by first | rfl | rw [← HM0.out] | (rw [← HM0.out]; simp), rfl, HI0.out⟩
        case round =>
        clear HI0
        obtain ⟨q, S, xs, hq, rfl, rfl, rfl, hB⟩ := hrel
        have HB : Hid (ScInv Z wr aN n cN bal E q S xs) := hB
        have hsb := sumA_bd _ hB.amt
        have htl : (E.take q).length ≤ 6 := by rw [List.length_take, HE.out.1]; omega
        rw [hB.sum] at hsb
        have s0 : -6917529027641081856 ≤ S := by omega
        have s1 : S ≤ 6917529027641081856 := by omega
        have htq : (E.take q).length ≤ q := by rw [List.length_take]; omega
        have HXb : Hid (xs.length = n ∧ ∀ x ∈ xs, -(1152921504606846976 * ((q : Int) + 1)) ≤ x ∧ x ≤ 1152921504606846976 * ((q : Int) + 1)) := ⟨by rw [← hB.lst, addAll_length]; exact HBn.out.1, fun x hx => by
          have := addAll_bd 1152921504606846976 (E.take q) (bal.take n) hB.amt HBn.out.2 x (by rw [hB.lst]; exact hx)
          omega⟩
        clear hB hsb htl htq
        by_cases hqm : q < m
        · obtain ⟨ge, ac, am, rfl, hx, c0, c1⟩ := own_ent HZ.out.2.2 HE.out.1 q hqm
          replace c0 := cell_keep HB.out.below c0
          replace c1 := cell_keep HB.out.below c1
          have q1 : (q : Int) < (m : Int) := by omega
          obtain ⟨ia0, ia1⟩ := HE.out.2.1 _ (List.mem_of_getElem? hx)
          simp only at ia0 ia1
          have HX : Hid (E[q]? = some ⟨ac, am⟩) := hx
          clear hx
          go_upto_region 29 with fail
          refine wp_letter (fun wx => ScInv Z wx aN n cN bal E q S xs ∧ ∃ Qe, wr.heap.size = Qe ∧ Z.heap.size ≤ Qe ∧ Below wr.heap.size wr wx ∧ wx.cell? ⟨Qe, 0, none⟩ = some (.int .i64 ac) ∧ wx.cell? ⟨Qe, 1, none⟩ = some (.int .i64 am)) ⟨⟨HB.out.amt, HB.out.acc, HB.out.sum, HB.out.lst, HB.out.own.alloc _, below_alloc HB.out.below _⟩, _, rfl, HB.out.below.size, below_alloc (Below.refl _ _) _, by simp [go_sem], by simp [go_sem]⟩ ?_
          clear c0 c1
          rintro Y ⟨hY, Qe, eQe, hQe, _, p0, p1⟩
          rw [eQe]
          have HY : Hid (ScInv Z Y aN n cN bal E q S xs) := hY
          have HQe : Hid (wr.heap.size = Qe ∧ wr.ownsRow Z.heap.size 3 1 (.slice aN n cN) n (xs.map (Value.int .i64))) := ⟨eQe, HB.out.own⟩
          clear hY eQe HB
          obtain ⟨Bd, hBd⟩ : ∃ Bd, decide (badE n ac am) = Bd := ⟨_, rfl⟩
          have HBd : Hid (decide (badE n ac am) = Bd) := hBd
          clear hBd
          go_cut [139] (fun cnd wx => cnd = .bool Bd ∧ Y = wx)
          case first => as_aux_lemma =>
            by_cases b1 : am < -1152921504606846976
            · go_wp2
              go_meet
              case rel => exact ⟨by rw [← HBd.out, decide_eq_true (p := badE n ac am) (Or.inl b1)], rfl⟩
            · by_cases b2 : 1152921504606846976 < am
              · go_wp2
                go_meet
                case rel => exact ⟨by rw [← HBd.out, decide_eq_true (p := badE n ac am) (Or.inr (Or.inl b2))], rfl⟩
              · by_cases b3 : ac < 0
                · go_wp2
                  go_meet
                  case rel => exact ⟨by rw [← HBd.out, decide_eq_true (p := badE n ac am) (Or.inr (Or.inr (Or.inl b3)))], rfl⟩
                · by_cases b4 : (n : Int) ≤ ac
                  · go_wp2
                    go_meet
                    case rel => exact ⟨by rw [← HBd.out, decide_eq_true (p := badE n ac am) (Or.inr (Or.inr (Or.inr b4)))], rfl⟩
                  · go_wp2
                    go_meet
                    case rel => exact ⟨by rw [← HBd.out, decide_eq_false (p := badE n ac am) (by unfold badE; omega)], rfl⟩
          case rest =>
          obtain ⟨rfl, rfl⟩ := hcut
          cases Bd with
          | true =>
            have hbad : badE n ac am := of_decide_eq_true HBd.out
            have HR : Hid (ScEnd Z Y aN n cN m bal E false S xs) := ⟨HXb.out.1, HY.out.own, HY.out.below, Or.inr ⟨scan_bad n E q ac am HX.out hbad, rfl⟩⟩
            clear hbad HBd
            go_wp2
            go_meet
            case rel => exact ⟨false, S, xs, rfl, rfl, HR.out⟩
          | false =>
            have hbad : ¬ badE n ac am := of_decide_eq_false HBd.out
            unfold badE at hbad
            obtain ⟨j, rfl⟩ := Int.eq_ofNat_of_zero_le (show 0 ≤ ac by omega)
            have hjn : j < n := by omega
            have jl : (j : Int) < (n : Int) := by omega
            have j00 : (0 : Int) ≤ (j : Int) := by omega
            obtain ⟨gN, eN, hgN, z0, f0, hst⟩ := own_cell HY.out.own j hjn
            subst eN
            have hne : gN ≠ Qe := by
              have := (HQe.out.2.lt gN rfl).2
              have := HQe.out.1
              omega
            have hne2 : Qe ≠ gN := hne.symm
            obtain ⟨y, hy⟩ : ∃ y, xs.getD j 0 = y := ⟨_, rfl⟩
            have hyb := HXb.out.2 y (by rw [← hy]; simp [List.getD_eq_getElem?_getD, show j < xs.length by rw [HXb.out.1]; exact hjn])
            have n1 := addAll_next E q ⟨j, am⟩ HX.out (bal.take n)
            rw [HY.out.lst] at n1
            simp only [Int.toNat_natCast] at n1
            rw [hy] at n1 z0
            have n2 := sumA_next E q ⟨j, am⟩ HX.out
            rw [HY.out.sum] at n2
            have n3 := allAmt_next E q ⟨j, am⟩ HX.out
            rw [HY.out.amt, (amtOk_iff am).2 (by omega)] at n3
            have n4 := accOk_next n E q ⟨j, am⟩ HX.out
            rw [HY.out.acc, decide_eq_true (p := 0 ≤ (j : Int)) j00, decide_eq_true (p := (j : Int) < (n : Int)) jl] at n4
            have HN : Hid (ScInv Z (Y.setCell ⟨gN, j, none⟩ (.int .i64 (y + am))).drew (some ⟨gN, 0, none⟩) n cN bal E (q + 1) (S + am) (xs.set j (y + am))) := ⟨n3, n4, n2, n1, (hst (y + am)).drew, (HY.out.below.setCell hgN _).drew⟩
            have zw : IntKind.i64.wrap (y + am) = y + am := wrap_in _ (by omega) (by omega)
            have zw2 : wrap64 (y + am) = y + am := by unfold wrap64; omega
            have zs : IntKind.i64.wrap (S + am) = S + am := wrap_in _ (by omega) (by omega)
            have zs2 : wrap64 (S + am) = S + am := by unfold wrap64; omega
            clear n1 n2 n3 n4 hst hy HY HX hbad HBd HQe
            go_upto_region 31 with fail
            go_region
            all_goals
              go_wp2
              go_roundw
              case rel => exact ⟨q + 1, S + am, _, by omega, by go_num, rfl, rfl, HN.out⟩
              case measure => simp [intOf]; omega
        · have hqe : q = m := by omega
          have HR : Hid (ScEnd Z wr aN n cN m bal E M0 S xs) := by
            have h := HB.out
            have ht : E.take q = E := by rw [hqe, ← HE.out.1]; exact List.take_length
            obtain ⟨h1, h2, h3, h4, h5, h6⟩ := h
            rw [ht] at h1 h2 h3 h4
            exact ⟨HXb.out.1, h5, h6, Or.inl ⟨by rw [h1, h2]; rfl, HM0.out.symm, h3.symm, h4.symm⟩⟩
          clear hqe HB
          go_wp2
          go_meet
          case rel => exact ⟨M0, S, xs, rfl, rfl, HR.out⟩
      case rest =>
      have aO := AO.down
      clear AO
      obtain ⟨may, S, xs, rfl, rfl, hSc⟩ := hcut
      go_upto_region 34 with fail
      rename_i aO2
      have AO : PLift _ := ⟨aO2⟩
      clear aO2
      refine wp_letter (fun wx => ScEnd Z wx aN n cN m bal E may S xs) hSc ?_
      intro W hW
      have HW : Hid (ScEnd Z W aN n cN m bal E may S xs) := hW
      have hWb : Below Z.heap.size Z W := hW.2.2.1
      have d3 := cell_keep hWb (HZ.out.2.1.cell 3 _ rfl); have d4 := cell_keep hWb (HZ.out.2.1.cell 4 _ rfl)
      simp only at d3 d4
      obtain ⟨B1, hB1⟩ : ∃ B1, (may && decide (S = 0) && (!mv || decide (0 ≤ N))) = B1 := ⟨_, rfl⟩
      have HB1 : Hid ((may && decide (S = 0) && (!mv || decide (0 ≤ N))) = B1) := hB1
      clear hSc hW hWb hB1 HI0
      go_cut [15] (fun x wx => x = .bool B1 ∧ W = wx)
      case first => as_aux_lemma =>
        clear AO
        cases may with
        | false =>
          go_wp2
          go_meet
          case rel => exact ⟨by rw [← HB1.out]; rfl, rfl⟩
        | true =>
          by_cases hS0 : S = 0
          · subst hS0
            cases mv with
            | false =>
              go_wp2
              go_meet
              case rel => exact ⟨by rw [← HB1.out]; rfl, rfl⟩
            | true =>
              by_cases hN0 : 0 ≤ N
              · go_wp2
                go_meet
                case rel => exact ⟨by rw [← HB1.out, decide_eq_true hN0]; rfl, rfl⟩
              · have hN1 : N < 0 := by omega
                go_wp2
                go_meet
                case rel => exact ⟨by rw [← HB1.out, decide_eq_false (p := 0 ≤ N) (by omega)]; rfl, rfl⟩
          · have hS1 : (S == 0) = false := by simpa using hS0
            have HS0 : Hid (¬ S = 0) := hS0
            clear hS0
            go_wp2
            go_meet
            case rel => exact ⟨by rw [← HB1.out, decide_eq_false (p := S = 0) HS0.out]; rfl, rfl⟩
      case rest =>
      obtain ⟨rfl, rfl⟩ := hcut
      have aO := AO.down
      clear AO d3 d4
      go_upto_block 6 with fail
      rename_i aO2
      have AO : PLift _ := ⟨aO2⟩
      clear aO2
      obtain ⟨B2, hB2⟩ : ∃ B2, (B1 && xs.all amtOk) = B2 := ⟨_, rfl⟩
      have HB2 : Hid ((B1 && xs.all amtOk) = B2) := hB2
      clear hB2
      go_cut [15] (fun x wx => x = .bool B2 ∧ W = wx)
      case first => as_aux_lemma =>
        clear AO
        go_wp2_with fail
        go_loop [15, 174] (fun x i => ∃ (q : Nat) (b : Bool), q ≤ n ∧ i = .int .i64 q ∧ x = .bool b ∧ (B1 && (xs.take q).all amtOk) = b) (fun _ i => n - (intOf i).toNat)
        case atStart => exact ⟨0, B1, by omega, rfl, rfl, by simp⟩
        case round =>
        obtain ⟨q, b, hq, rfl, rfl, hb⟩ := hrel
        have HB : Hid ((B1 && (xs.take q).all amtOk) = b) := hb
        clear hb
        by_cases hqn : q < n
        · obtain ⟨gN, eN, hgN, z0, _, _⟩ := own_cell HW.out.2.1 q hqn
          subst eN
          have hn := all_take_next xs q (by rw [HW.out.1]; exact hqn)
          generalize xs.getD q 0 = y at z0 hn
          have HN : Hid ((B1 && (xs.take (q + 1)).all amtOk) = (b && amtOk y)) := by show _ = _; rw [hn, ← HB.out, Bool.and_assoc]
          have q1 : (q : Int) < (n : Int) := by omega
          clear hn HB
          cases b with
          | false =>
            go_wp2
            go_round
            case rel => exact ⟨q + 1, false, by omega, by go_num, rfl, by rw [HN.out]; rfl⟩
            case measure => simp [intOf]; omega
          | true =>
            by_cases y0 : -1152921504606846976 ≤ y
            · by_cases y1 : y ≤ 1152921504606846976
              · go_wp2
                go_round
                case rel => exact ⟨q + 1, true, by omega, by go_num, rfl, by rw [HN.out, (amtOk_iff y).2 ⟨y0, y1⟩]; rfl⟩
                case measure => simp [intOf]; omega
              · have y2 : 1152921504606846976 < y := by omega
                go_wp2
                go_round
                case rel => exact ⟨q + 1, false, by omega, by go_num, rfl, by rw [HN.out]; simp [amtOk]; omega⟩
                case measure => simp [intOf]; omega
            · have y2 : y < -1152921504606846976 := by omega
              go_wp2
              go_round
              case rel => exact ⟨q + 1, false, by omega, by go_num, rfl, by rw [HN.out]; simp [amtOk]; omega⟩
              case measure => simp [intOf]; omega
        · have hbe : b = B2 := by
            rw [← HB.out, ← HB2.out, List.take_of_length_le (by rw [HW.out.1]; omega)]
          subst hbe
          go_wp2
          go_meet
          case rel => exact ⟨rfl, rfl⟩
      case rest =>
      obtain ⟨rfl, rfl⟩ := hcut
      have aO := AO.down
      clear AO
      have HBB : Hid (B2 = (postB n bal E && (!mv || decide (0 ≤ N)))) := plays_all HW.out HE.out.1 hm6 HZ.out.1.ok _ B1 B2 HB1.out HB2.out
      have hWb : Below Z.heap.size Z W := HW.out.2.2.1
      have hPW := HZ.out.1.then hWb
      have hEW := own_below HZ.out.2.2 hWb
      have hQW := HZ.out.2.1.then hWb
      have d1 := hQW.cell 1 _ rfl; have d2 := hQW.cell 2 _ rfl; have d3 := hQW.cell 3 _ rfl; have d4 := hQW.cell 4 _ rfl
      simp only at d1 d2 d3 d4
      have HS : Hid (PlInv w W A n u7 bal c ∧ W.ownsRow V.heap.size 27 2 (.slice av m cv) m (E.flatMap Ent.f) ∧ W.ownsRow Z.heap.size 3 1 (.slice aN n cN) n (xs.map (Value.int .i64))) := ⟨hPW, hEW, HW.out.2.1⟩
      have e8 : (if N < -5 then (-5 : Int) else N) = N5 := by rw [← HN5.out]; split <;> omega
      obtain ⟨L2, hL2⟩ : ∃ L2, (if B2 then addAll bal E else bal) = L2 := ⟨_, rfl⟩
      obtain ⟨C2, hC2⟩ : ∃ C2 : Int, (if B2 then c + 1 else c) = C2 := ⟨_, rfl⟩
      have HL2 : Hid ((if B2 then addAll bal E else bal) = L2 ∧ (if B2 then c + 1 else c) = C2) := ⟨hL2, hC2⟩
      have hZA : A < Z.heap.size := HZ.out.1.sht.lt
      clear hWb hPW hEW hQW hL2 hC2
      go_upto_if 189 with fail
      rename_i aO2
      have AO : PLift _ := ⟨aO2⟩
      clear aO2
      go_cut [] (fun wx => Below w.heap.size w wx ∧ Sht wx A n L2 C2 ∧ wx.ownsRow (A + 1) 3 1 u7 n ((bal.take n).map (Value.int .i64)) ∧ wx.ownsRow Z.heap.size 3 1 (.slice aN n cN) n (xs.map (Value.int .i64)))
      case first => as_aux_lemma =>
        clear AO
        cases mv with
        | true =>
          obtain rfl : E = moveE fr t N5 := HE.out.2.2 rfl
          have eB : moveB n bal fr t N5 = B2 := by
            rw [move_post n bal fr t N N5 HN5.out, HBB.out]
            simp
          have HM : Hid (moveB n bal fr t N5 = B2 ∧ moveL n bal fr t N5 = L2 ∧ moveC n bal fr t N5 c = C2) := ⟨eB, by rw [moveL, eB]; exact HL2.out.1, by rw [moveC, eB]; exact HL2.out.2⟩
          clear eB HBB
          cases B2
          all_goals
            go_wp2_with (go_at_call 9; refine (move_to HS.out.1.sht HS.out.1.ok (by omega) (by omega) HM.out.1 HM.out.2.1 HM.out.2.2).mono ?_; rintro e w7 ⟨rfl, s7, r7⟩)
            go_meet
            case rel => exact ⟨r7.below HS.out.1.below hA0 HS.out.1.below.size, s7, own_rest HS.out.1.own r7 (by omega), own_rest HS.out.2.2 r7 hZA⟩
        | false =>
          have eB : postB n bal E = B2 := by rw [HBB.out]; simp
          have HM : Hid (postB n bal E = B2 ∧ postL n bal E = L2 ∧ postC n bal E c = C2) := ⟨eB, by rw [postL, eB]; exact HL2.out.1, by rw [postC, eB]; exact HL2.out.2⟩
          clear eB HBB
          go_upto_region 44 with (go_at_call 15; refine (roomyE_any _ E ⟨9, 0⟩ _ (own_lies Ent.len HS.out.2.1 HE.out.1) (by rw [HE.out.1]; omega)).mono ?_; rintro e w7 ⟨gf, rfl, hgf, hgl, hbf, b7⟩; rw [HE.out.1])
          have hgA : gf ≠ A := by have := HS.out.1.sht.lt; omega
          have hfull := lies_blk hbf (fullE_length HE.out.1) (by unfold maxLen; omega)
          have htake := hfull.take m (by omega)
          rw [fullE_take HE.out.1] at htake
          have HF : Hid (Lies 2 Ent.f w7 (.slice (some ⟨gf, 0, none⟩) m (m + 80)) E ∧ Blk w7 gf 27 ((fullE E ⟨9, 0⟩).flatMap Ent.f)) := ⟨htake, hbf⟩
          have HS7 : Hid (PlInv w w7 A n u7 bal c ∧ w7.ownsRow V.heap.size 27 2 (.slice av m cv) m (E.flatMap Ent.f) ∧ w7.ownsRow Z.heap.size 3 1 (.slice aN n cN) n (xs.map (Value.int .i64))) := ⟨HS.out.1.then b7, own_below HS.out.2.1 b7, own_below HS.out.2.2 b7⟩
          clear hfull htake hbf b7 HS
          have mm0 : (m : Int) ≤ (m : Int) + 80 := by omega
          cases B2
          all_goals
            go_wp2_with (first
              | (go_at_call 10; refine (post_to HS7.out.1.sht HF.out.1 HE.out.2.1 HS7.out.1.ok (by omega) (by omega) HM.out.1 HM.out.2.1 HM.out.2.2).mono ?_; rintro e w8 ⟨rfl, s8, r8⟩)
              | (go_at_call 16; refine (intactE_any gf m (m + 80) _ E ⟨9, 0⟩ w8 HE.out.1 (by omega) (lies_blk (HF.out.2.rest r8 hgA) (fullE_length HE.out.1) (by unfold maxLen; omega)) (own_lies Ent.len (own_rest HS7.out.2.1 r8 hVA) HE.out.1)).mono ?_; rintro e w9 ⟨rfl, b9⟩))
            go_meet
            case rel => exact ⟨below_then (r8.below HS7.out.1.below hA0 HS7.out.1.below.size) b9, s8.then b9, own_below (own_rest HS7.out.1.own r8 (by omega)) b9, own_below (own_rest HS7.out.2.2 r8 hZA) b9⟩
      case rest =>
      have aO := AO.down
      clear AO
      obtain ⟨hWw, hWs, hWo, hWn⟩ := hcut
      have HF : Hid (PlInv w wc A n (if B2 then .slice aN n cN else u7) L2 C2) := by
        cases B2 with
        | false =>
          obtain ⟨h1, h2⟩ := HL2.out
          simp only [Bool.false_eq_true, if_false] at h1 h2 ⊢
          subst h1 h2
          exact ⟨hWw, hWs, HZ.out.1.ok, hWo⟩
        | true =>
          obtain ⟨h1, h2⟩ := HL2.out
          simp only [if_true] at h1 h2 ⊢
          have hp : postB n bal E = true := by
            have := HBB.out
            cases hq : postB n bal E with
            | true => rfl
            | false => rw [hq] at this; simp at this
          obtain ⟨p1, p2, p3⟩ := plays_next HZ.out.1.sht.len E hp
          have hx : xs = addAll (bal.take n) E := by
            rcases HW.out.2.2.2 with ⟨_, _, _, h⟩ | ⟨h, _⟩
            · exact h
            · rw [post_bad n bal E h] at hp; cases hp
          subst h1 h2
          refine ⟨hWw, hWs, p2, ?_⟩
          rw [p1, ← hx]
          exact ⟨hWn.1, hWn.2.imp id fun ⟨g, cap, cur, q1, q2, q3⟩ => ⟨g, cap, cur, q1, by omega, q3⟩⟩
      have HC : Hid (0 ≤ C2 ∧ C2 ≤ (k : Int) + 1) := by
        have := HL2.out.2
        cases B2 <;> simp at this <;> exact ⟨by omega, by omega⟩
      have e99 : balAt n L2 (-1) = 0 := by unfold balAt; rw [if_neg (by omega)]
      have e98 : balAt n L2 n = 0 := by unfold balAt; rw [if_neg (by omega)]
      have HBal : Hid (balAt n L2 (-1) = 0 ∧ balAt n L2 n = 0) := ⟨e99, e98⟩
      clear hWw hWs hWo hWn HW HS HZ HE HBB HB1 HB2 HBn HM0 HN5 d1 d2 d3 d4 e8 e98 e99
      have HL3 : (if B2 then c + 1 else c) = C2 := HL2.out.2
      clear HL2
      cases B2
      all_goals
        simp only [Bool.false_eq_true, if_false, if_true] at HF HL3
        subst HL3
        go_wp2_with (first
          | (go_at_call 12; refine (balances_any _ _ _ _ _ HF.out.sht).mono ?_; rintro e w8 ⟨rfl, d8, b8⟩)
          | (go_at_call 11; refine (same_any _ _ (L2.take n) _ d8 (own_reads (own_below HF.out.own b8))).mono ?_; rintro e w9 ⟨rfl, m9, rfl⟩; have H9 := (HF.out.then b8).then (below_draws (Below.refl _ _) m9))
          | (go_at_call 13; refine (count_any _ _ _ _ _ H9.sht).mono ?_; rintro e wq ⟨rfl, hq⟩; have hq := hq.symm; subst hq)
          | (go_at_call_of 17 (n); refine (balance_any _ _ _ _ _ _ H9.sht).mono ?_; rintro e wq ⟨rfl, hq⟩; have hq := hq.symm; subst hq; rw [HBal.out.2])
          | (go_at_call 17; refine (balance_any _ _ _ _ _ _ H9.sht).mono ?_; rintro e wq ⟨rfl, hq⟩; have hq := hq.symm; subst hq; rw [HBal.out.1]))
        go_roundw
        case rel => exact ⟨k + 1, L2, _, by omega, by go_num, rfl, HC.out.1, by have := HC.out.2; omega, H9⟩
        case measure => simp [intOf]; omega
    · go_wp2_with (go_at_call 3; refine (sheetRuns_any _).mono ?_; rintro e wz ⟨rfl, bz⟩)
      go_ret
      exact ⟨rfl, below_then HI.out.below bz⟩
  · go_wp2_with (go_at_call 3; refine (sheetRuns_any _).mono ?_; rintro e wz ⟨rfl, bz⟩)
    go_ret
    exact ⟨rfl, below_then HI.out.below bz⟩
end Go.Proofs.Ytolbgemaildbkaa
