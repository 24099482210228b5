/-
  Package sheet: what Post tells, as a function of numbers.
-/
import Derived.Test.YtolbgemaildbkaaSht
namespace Go.Proofs.Ytolbgemaildbkaa
open Go.RowKit

/-- Each entry's amount laid on its account. -/
def addAll : List Int → List Ent → List Int
  | bal, [] => bal
  | bal, e :: r => addAll (bal.set e.acc.toNat (bal.getD e.acc.toNat 0 + e.amt)) r
theorem addAll_length : ∀ (es : List Ent) (bal : List Int), (addAll bal es).length = bal.length
  | [], _ => rfl
  | e :: r, bal => by rw [addAll, addAll_length r, List.length_set]
theorem addAll_append : ∀ (es fs : List Ent) (bal : List Int), addAll bal (es ++ fs) = addAll (addAll bal es) fs
  | [], _, _ => rfl
  | e :: r, fs, bal => by rw [List.cons_append, addAll, addAll, addAll_append r]
theorem addAll_next (es : List Ent) (k : Nat) (e : Ent) (h : es[k]? = some e) (bal : List Int) :
    addAll bal (es.take (k + 1)) = (addAll bal (es.take k)).set e.acc.toNat ((addAll bal (es.take k)).getD e.acc.toNat 0 + e.amt) := by
  obtain ⟨hk, rfl⟩ := List.getElem?_eq_some_iff.1 h
  rw [List.take_succ_eq_append_getElem hk, addAll_append]
  rfl
/-- Is each account there? -/
def accOk (n : Nat) (es : List Ent) : Bool := es.all fun e => decide (0 ≤ e.acc) && decide (e.acc < n)
theorem accOk_next (n : Nat) (es : List Ent) (k : Nat) (e : Ent) (h : es[k]? = some e) : accOk n (es.take (k + 1)) = (accOk n (es.take k) && (decide (0 ≤ e.acc) && decide (e.acc < n))) := by
  obtain ⟨hk, rfl⟩ := List.getElem?_eq_some_iff.1 h
  unfold accOk
  rw [List.take_succ_eq_append_getElem hk, List.all_append]
  simp
theorem accOk_false (n : Nat) (es : List Ent) (e : Ent) (h : e ∈ es) (hb : (decide (0 ≤ e.acc) && decide (e.acc < n)) = false) : accOk n es = false := by
  unfold accOk
  rw [List.all_eq_false]
  exact ⟨e, h, by simpa using hb⟩
/-- May they be posted together? -/
def postB (n : Nat) (bal : List Int) (es : List Ent) : Bool := decide (es ≠ []) && netB es && decide (sumA es = 0) && accOk n es && (addAll bal es).all amtOk
def postL (n : Nat) (bal : List Int) (es : List Ent) : List Int := if postB n bal es then addAll bal es else bal
def postC (n : Nat) (bal : List Int) (es : List Ent) (c : Int) : Int := if postB n bal es then c + 1 else c

/-- Sums on the way are small. -/
theorem addAll_bd (B : Int) : ∀ (es : List Ent) (bal : List Int), allAmt es = true → (∀ x ∈ bal, -B ≤ x ∧ x ≤ B) → ∀ x ∈ addAll bal es, -(B + es.length * 1152921504606846976) ≤ x ∧ x ≤ B + es.length * 1152921504606846976
  | [], bal, _, h, x, hx => by have := h x hx; simp; omega
  | e :: r, bal, ha, h, x, hx => by
    simp only [allAmt, List.all_cons, Bool.and_eq_true] at ha
    have h1 := (amtOk_iff _).1 ha.1
    have := addAll_bd (B + 1152921504606846976) r (bal.set e.acc.toNat (bal.getD e.acc.toNat 0 + e.amt)) ha.2 (fun y hy => by
      rcases List.mem_or_eq_of_mem_set hy with hy | rfl
      · have := h y hy; omega
      · rcases Nat.lt_or_ge e.acc.toNat bal.length with hl | hl
        · have := h (bal.getD e.acc.toNat 0) (by simp [List.getD_eq_getElem?_getD, hl])
          omega
        · rw [List.set_eq_of_length_le hl] at hy
          have := h _ hy; omega) x hx
    rw [List.length_cons, Int.natCast_add, Int.add_mul]
    simp
    omega

/-- The block of the sums. -/
def sumsC (S : List Int) : List Value := S.flatMap wideC
theorem sumsC_at (S : List Int) (i : Nat) (hi : i < S.length) : (sumsC S)[i * 2]? = some (.int .u64 (hiW (S.getD i 0))) ∧ (sumsC S)[i * 2 + 1]? = some (.int .u64 (loW (S.getD i 0))) := by
  have h : S[i]? = some (S.getD i 0) := by simp [hi]
  exact ⟨flat_at (m := 2) (f := wideC) (fun _ => rfl) S i 0 _ h (by decide), flat_at (m := 2) (f := wideC) (fun _ => rfl) S i 1 _ h (by decide)⟩
theorem sumsC_length (S : List Int) : (sumsC S).length = S.length * 2 := flat_length (m := 2) (f := wideC) (fun _ => rfl) S
theorem sumsC_set : ∀ (S : List Int) (i : Nat) (x : Int), ((sumsC S).set (i * 2) (.int .u64 (hiW x))).set (i * 2 + 1) (.int .u64 (loW x)) = sumsC (S.set i x)
  | [], i, x => by simp [sumsC]
  | y :: r, 0, x => by simp [sumsC, wideC]
  | y :: r, i + 1, x => by
    have := sumsC_set r i x
    simp only [sumsC, List.flatMap_cons, wideC, List.cons_append, List.nil_append, List.set_cons_succ] at this ⊢
    rw [show (i + 1) * 2 = i * 2 + 1 + 1 by omega, List.set_cons_succ, List.set_cons_succ, List.set_cons_succ, List.set_cons_succ, this]

/-- The sums as far as the balances are laid. -/
def startAt (bal : List Int) (k : Nat) : List Int := bal.take k ++ List.replicate (64 - k) 0
theorem startAt_next (bal : List Int) (k : Nat) (hl : bal.length = 64) (hk : k < 64) : (startAt bal k).set k (0 + bal.getD k 0) = startAt bal (k + 1) ∧ (startAt bal k).getD k 0 = 0 := by
  unfold startAt
  obtain ⟨m, hm⟩ : ∃ m, 64 - k = m + 1 := ⟨63 - k, by omega⟩
  have e : (bal.take k).length = k := by rw [List.length_take]; omega
  rw [hm, show 64 - (k + 1) = m by omega, List.replicate_succ]
  constructor
  · rw [List.set_append_right _ _ (by omega), e, Nat.sub_self, List.set_cons_zero]
    have h1 : bal.take (k + 1) = bal.take k ++ [bal.getD k 0] := by
      rw [List.take_succ_eq_append_getElem (by omega)]
      simp [hl, hk]
    rw [h1]
    simp
  · rw [List.getD_eq_getElem?_getD, List.getElem?_append_right (by omega), e]
    simp
theorem startAt_length (bal : List Int) (k : Nat) (hl : bal.length = 64) (hk : k ≤ 64) : (startAt bal k).length = 64 := by
  unfold startAt
  simp [hl]
  omega
theorem startAt_zero (bal : List Int) : startAt bal 0 = List.replicate 64 0 := rfl
theorem startAt_all (bal : List Int) (hl : bal.length = 64) : startAt bal 64 = bal := by
  unfold startAt
  rw [List.take_of_length_le (by omega)]
  simp
theorem shC_bal (n : Nat) (bal F : List Int) (c : Int) (hl : bal.length = 64) (hF : F.length = 64) :
    (shC n bal c).take 1 ++ F.map (Value.int .i64) ++ (shC n bal c).drop (1 + (F.map (Value.int .i64)).length) = shC n F c := by
  rw [List.length_map, hF]
  have e : (shC n bal c).drop (1 + 64) = [.int .i64 c] := by
    rw [shC, Nat.add_comm, List.drop_succ_cons, List.drop_append_of_le_length (by simp [hl]), List.drop_of_length_le (by simp [hl])]
    rfl
  rw [e]
  rfl
theorem shC_count (n : Nat) (bal : List Int) (c d : Int) (hl : bal.length = 64) : (shC n bal c).set 65 (.int .i64 d) = shC n bal d := by
  rw [shC, List.set_cons_succ, List.set_append_right _ _ (by simp [hl])]
  simp [shC, hl]
theorem all_take_next (F : List Int) (k : Nat) (hk : k < F.length) : (F.take (k + 1)).all amtOk = ((F.take k).all amtOk && amtOk (F.getD k 0)) := by
  have : F.take (k + 1) = F.take k ++ [F.getD k 0] := by
    rw [List.take_succ_eq_append_getElem hk]
    simp [hk]
  rw [this, List.all_append]
  simp
theorem all_getD_false (F : List Int) (k : Nat) (hk : k < F.length) (h : amtOk (F.getD k 0) = false) : F.all amtOk = false := by
  rw [List.all_eq_false]
  exact ⟨F.getD k 0, by simp [List.getD_eq_getElem?_getD, hk], by simp only [h]; simp⟩
theorem startAt_set (F : List Int) (k : Nat) (hl : F.length = 64) (hk : k < 64) : ((startAt F k).map (Value.int .i64)).set k (.int .i64 (F.getD k 0)) = (startAt F (k + 1)).map (Value.int .i64) := by
  have := (startAt_next F k hl hk).1
  rw [Int.zero_add] at this
  rw [← List.map_set, this]
end Go.Proofs.Ytolbgemaildbkaa
