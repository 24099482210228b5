/-
  Package sheet: the walk of Move; Post with its outcome as letters.
-/
import Derived.Test.YtolbgemaildbkaaPost
namespace Go.Proofs.Ytolbgemaildbkaa
open Go.RowKit

/-- Elements laid in a block of their own, as a list. -/
theorem lies_new {α : Type} {m : Nat} {f : α → List Value} (hl : ∀ x, (f x).length = m) (w : World) (xs : List α) (e : TypeId) (hx : xs.length ≤ maxLen) : Lies m f (w.alloc (.cells (xs.flatMap f).toArray e)) (.slice (some ⟨w.heap.size, 0, none⟩) xs.length xs.length) xs := by
  refine ⟨_, xs.length, rfl, Nat.le_refl _, hx, by simp, Or.inr ⟨_, 0, rfl, fun i x hi j u hj => ?_⟩⟩
  have hjm : j < m := by rw [← hl x]; exact (List.getElem?_eq_some_iff.1 hj).1
  have := (Blk.fresh w e (xs.flatMap f)).cell (i * m + j) u (by rw [flat_at hl xs i j x hi hjm]; exact hj)
  rw [Nat.zero_add]
  exact this

section
variable {b n : Nat} {bal L : List Int} {c N : Int} {v : Value} {es : List Ent} {w : World} {ok : Bool}
theorem post_to (h : Sht w b n bal c) (hl : Lies 2 Ent.f w v es) (hI : ∀ e ∈ es, I64 e.amt) (hbal : ∀ x ∈ bal, amtOk x = true) (hc0 : -9223372036854775808 ≤ c) (hc1 : c < 9223372036854775807) (e1 : postB n bal es = ok) (e2 : postL n bal es = L) (e3 : postC n bal es c = N) :
    Calls Try.prog 10 #[.pointer (some ⟨b, 0, none⟩), v] w fun e w' => e = .returned (.bool ok) ∧ Sht w' b n L N ∧ Rest b w w' := by
  subst e1 e2 e3
  exact post_any b n bal c v es w h hl hI hbal hc0 hc1
end

/-- What Move posts. -/
def moveE (f t m : Int) : List Ent := [⟨f, -m⟩, ⟨t, m⟩]
def moveB (n : Nat) (bal : List Int) (f t m : Int) : Bool := (decide (0 ≤ m) && decide (m ≤ 1152921504606846976)) && postB n bal (moveE f t m)
def moveL (n : Nat) (bal : List Int) (f t m : Int) : List Int := if moveB n bal f t m then addAll bal (moveE f t m) else bal
def moveC (n : Nat) (bal : List Int) (f t m c : Int) : Int := if moveB n bal f t m then c + 1 else c

theorem rightOne (s : Int) (b cap : Nat) (w : World) (hc : w.cell? ⟨b, 0, none⟩ = some (.int .i64 s)) :
    Calls Try.prog 20 #[.slice (some ⟨b, 0, none⟩) 1 cap] w fun e w' => e = .returned (.bool (decide (0 ≤ s) && decide (s ≤ 1152921504606846976))) ∧ w' = w := by
  have := right_at b 0 1 cap [s] w rfl (by unfold maxLen; omega) (fun i hi => by
    match i, hi with
    | 0, _ => simpa using hc)
  simpa [rightL] using this

set_option maxHeartbeats 1000000 in
theorem move_any (b n : Nat) (bal : List Int) (c f t m : Int) (w : World) (h : Sht w b n bal c) (hbal : ∀ x ∈ bal, amtOk x = true) (hc0 : -9223372036854775808 ≤ c) (hc1 : c < 9223372036854775807) :
    Calls Try.prog 9 #[.pointer (some ⟨b, 0, none⟩), .int .i64 f, .int .i64 t, .int .i64 m] w fun e w' => e = .returned (.bool (moveB n bal f t m)) ∧ Sht w' b n (moveL n bal f t m) (moveC n bal f t m c) ∧ Rest b w w' := by
  have H : Hid (Sht w b n bal c ∧ ∀ x ∈ bal, amtOk x = true) := ⟨h, hbal⟩
  clear h hbal
  cases hr : (decide (0 ≤ m) && decide (m ≤ 1152921504606846976)) with
  | false =>
    have e1 : moveB n bal f t m = false := by rw [moveB, hr]; rfl
    rw [moveL, moveC, e1, if_neg (by simp), if_neg (by simp)]
    have HR : Hid ((decide (0 ≤ m) && decide (m ≤ 1152921504606846976)) = false) := hr
    clear hr e1
    go_enter Try.func9, Try.ntmps9
    go_wp2_with (go_at_call 20; refine (rightOne m _ _ _ (by simp [go_sem])).mono ?_; rintro e wq ⟨rfl, hq⟩; have hq := hq.symm; subst hq; rw [HR.out])
    go_ret
    exact ⟨rfl, H.out.1.then (below_alloc (Below.refl _ _) _), .of_below (below_alloc (Below.refl _ _) _)⟩
  | true =>
    have hm : 0 ≤ m ∧ m ≤ 1152921504606846976 := by simpa using hr
    obtain ⟨m0, m1⟩ := hm
    obtain ⟨B, e1⟩ : ∃ B, postB n bal (moveE f t m) = B := ⟨_, rfl⟩
    obtain ⟨L, e2⟩ : ∃ L, postL n bal (moveE f t m) = L := ⟨_, rfl⟩
    obtain ⟨N, e3⟩ : ∃ N, postC n bal (moveE f t m) c = N := ⟨_, rfl⟩
    have f1 : moveB n bal f t m = B := by rw [moveB, hr, e1]; rfl
    have f2 : moveL n bal f t m = L := by rw [moveL, f1, ← e2, postL, e1]
    have f3 : moveC n bal f t m c = N := by rw [moveC, f1, ← e3, postC, e1]
    rw [f1, f2, f3]
    have E : Hid (postB n bal (moveE f t m) = B ∧ postL n bal (moveE f t m) = L ∧ postC n bal (moveE f t m) c = N) := ⟨e1, e2, e3⟩
    have HR : Hid ((decide (0 ≤ m) && decide (m ≤ 1152921504606846976)) = true) := hr
    have HI : Hid (∀ e ∈ moveE f t m, I64 e.amt) := by
      intro e he
      simp only [moveE, List.mem_cons, List.not_mem_nil, or_false] at he
      rcases he with rfl | rfl <;> exact ⟨by simp only; omega, by simp only; omega⟩
    clear hr e1 e2 e3 f1 f2 f3
    go_enter Try.func9, Try.ntmps9
    go_upto_region 3 with (go_at_call 20; refine (rightOne m _ _ _ (by simp [go_sem])).mono ?_; rintro e wq ⟨rfl, hq⟩; have hq := hq.symm; subst hq; rw [HR.out])
    refine wp_letter (fun wx => Below w.heap.size w wx) (below_alloc (Below.refl _ _) _) ?_
    intro X hX
    have HL : Hid (Lies 2 Ent.f (X.alloc (.cells #[.int .i64 f, .int .i64 (-m), .int .i64 t, .int .i64 m] 27)) (.slice (some ⟨X.heap.size, 0, none⟩) 2 2) (moveE f t m)) := lies_new Ent.len X (moveE f t m) 27 (by unfold maxLen; simp [moveE])
    have HB : Hid (Below w.heap.size w (X.alloc (.cells #[.int .i64 f, .int .i64 (-m), .int .i64 t, .int .i64 m] 27))) := below_alloc hX _
    clear hX
    go_wp2_with (go_at_call 10; refine (post_to (H.out.1.then HB.out) HL.out HI.out H.out.2 hc0 hc1 E.out.1 E.out.2.1 E.out.2.2).mono ?_; rintro e w1 ⟨rfl, s1, r1⟩)
    go_ret
    exact ⟨rfl, s1, (Rest.of_below HB.out).trans r1⟩

section
variable {b n : Nat} {bal L : List Int} {c N f t m : Int} {w : World} {ok : Bool}
theorem move_to (h : Sht w b n bal c) (hbal : ∀ x ∈ bal, amtOk x = true) (hc0 : -9223372036854775808 ≤ c) (hc1 : c < 9223372036854775807) (e1 : moveB n bal f t m = ok) (e2 : moveL n bal f t m = L) (e3 : moveC n bal f t m c = N) :
    Calls Try.prog 9 #[.pointer (some ⟨b, 0, none⟩), .int .i64 f, .int .i64 t, .int .i64 m] w fun e w' => e = .returned (.bool ok) ∧ Sht w' b n L N ∧ Rest b w w' := by
  subst e1 e2 e3
  exact move_any b n bal c f t m w h hbal hc0 hc1
end
end Go.Proofs.Ytolbgemaildbkaa
