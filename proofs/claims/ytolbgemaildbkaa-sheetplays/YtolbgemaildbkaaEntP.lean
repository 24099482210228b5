/-
  Plain facts on entries that are small: what Net and Post tell of them.
-/
import Derived.Test.YtolbgemaildbkaaMove
namespace Go.Proofs.Ytolbgemaildbkaa
open Go.RowKit

/-- Entries of accounts below n, of amounts up to B. -/
def Small (n : Nat) (B : Int) (es : List Ent) : Prop := ∀ e ∈ es, (0 ≤ e.acc ∧ e.acc < n) ∧ -B ≤ e.amt ∧ e.amt ≤ B

section
variable {n : Nat} {B : Int} {es fs : List Ent}
theorem Small.nil : Small n B [] := fun _ h => by simp at h
theorem Small.append (h : Small n B es) (k : Small n B fs) : Small n B (es ++ fs) := fun e he => (List.mem_append.1 he).elim (h e) (k e)
theorem Small.one {e : Ent} (h : (0 ≤ e.acc ∧ e.acc < n) ∧ -B ≤ e.amt ∧ e.amt ≤ B) : Small n B [e] := fun x hx => by simp only [List.mem_singleton] at hx; subst hx; exact h
theorem Small.sub (h : Small n B es) (hs : ∀ e ∈ fs, e ∈ es) : Small n B fs := fun e he => h e (hs e he)
theorem Small.mono {C : Int} (h : Small n B es) (hC : B ≤ C) : Small n C es := fun e he => by have := h e he; omega
theorem Small.amt (h : Small n B es) (hB : B ≤ 1152921504606846976) : allAmt es = true := by
  unfold allAmt
  rw [List.all_eq_true]
  intro e he
  have := h e he
  exact (amtOk_iff _).2 (by omega)
theorem Small.i64 (h : Small n B es) (hB : B ≤ 1152921504606846976) : ∀ e ∈ es, I64 e.amt := fun e he => by
  have := h e he
  exact ⟨by omega, by omega⟩
theorem Small.acc (h : Small n B es) : accOk n es = true := by
  unfold accOk
  rw [List.all_eq_true]
  intro e he
  have := h e he
  simp [this]
theorem Small.sum : ∀ {es : List Ent}, Small n B es → -(es.length * B : Int) ≤ sumA es ∧ sumA es ≤ es.length * B
  | [], _ => by simp [sumA]
  | e :: r, h => by
    have h1 := h e (by simp)
    have h2 := Small.sum (es := r) (fun x hx => h x (by simp [hx]))
    rw [sumA_cons, List.length_cons, Int.natCast_add, Int.add_mul]
    simp
    omega
theorem Small.add (C : Int) : ∀ {es : List Ent} {bal : List Int}, Small n B es → (∀ x ∈ bal, -C ≤ x ∧ x ≤ C) → 0 ≤ B → ∀ x ∈ addAll bal es, -(C + es.length * B) ≤ x ∧ x ≤ C + es.length * B
  | [], bal, _, h, _, x, hx => by have := h x hx; simp; omega
  | e :: r, bal, hs, h, hB, x, hx => by
    have h1 := hs e (by simp)
    have := Small.add (C + B) (es := r) (bal := bal.set e.acc.toNat (bal.getD e.acc.toNat 0 + e.amt)) (fun y hy => hs y (by simp [hy])) (fun y hy => by
      rcases List.mem_or_eq_of_mem_set hy with hy | rfl
      · have := h y hy; omega
      · rcases Nat.lt_or_ge e.acc.toNat bal.length with hl | hl
        · have := h (bal.getD e.acc.toNat 0) (by simp [List.getD_eq_getElem?_getD, hl])
          omega
        · rw [List.set_eq_of_length_le hl] at hy
          have := h _ hy; omega) hB x hx
    rw [List.length_cons, Int.natCast_add, Int.add_mul]
    simp
    omega
theorem Small.net (h : Small n B es) (h0 : 0 ≤ B) (hB : B ≤ 1125899906842624) (hl : es.length ≤ 64) : netB es = true ∧ netV es = sumA es := by
  have hs := h.sum
  have hm : (es.length : Int) * B ≤ 64 * 1125899906842624 := Int.mul_le_mul (by omega) hB h0 (by omega)
  have h1 : netB es = true := by
    unfold netB
    rw [h.amt (by omega), decide_eq_true hl, (isInt_iff _).2 (by omega)]
    rfl
  exact ⟨h1, by rw [netV, h1, if_pos rfl]⟩
theorem Small.bal {bal : List Int} (h : Small n B es) (h0 : 0 ≤ B) (hB : B ≤ 1125899906842624) (hl : es.length ≤ 64) (C : Int) (hC : C ≤ 576460752303423488) (hb : ∀ x ∈ bal, -C ≤ x ∧ x ≤ C) : (addAll bal es).all amtOk = true := by
  rw [List.all_eq_true]
  intro x hx
  have hm : (es.length : Int) * B ≤ 64 * 1125899906842624 := Int.mul_le_mul (by omega) hB h0 (by omega)
  have := h.add C hb h0 x hx
  exact (amtOk_iff _).2 (by omega)
theorem Small.post {bal : List Int} (h : Small n B es) (h0 : 0 ≤ B) (hB : B ≤ 1125899906842624) (hl : es.length ≤ 64) (C : Int) (hC : C ≤ 576460752303423488) (hb : ∀ x ∈ bal, -C ≤ x ∧ x ≤ C) :
    postB n bal es = (decide (sumA es = 0) && decide (0 < es.length)) := by
  unfold postB
  rw [(h.net h0 hB hl).1, h.acc, h.bal h0 hB hl C hC hb]
  cases es with
  | nil => simp
  | cons e r => simp
end
theorem zeros_bd (k : Nat) : ∀ x ∈ List.replicate k (0 : Int), -0 ≤ x ∧ x ≤ 0 := fun x hx => by rw [List.eq_of_mem_replicate hx]; simp
end Go.Proofs.Ytolbgemaildbkaa
