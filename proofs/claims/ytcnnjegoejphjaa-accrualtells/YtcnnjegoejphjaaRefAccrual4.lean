/-
  The document's own answer to chapter 3: the walks of Days and Interest, put together.
-/
import Derived.Test.YtcnnjegoejphjaaRefAccrual
import Derived.Test.YtcnnjegoejphjaaRefAccrual2
import Derived.Test.YtcnnjegoejphjaaRefAccrual3
namespace Go.Proofs.Ytcnnjegoejphjaa
open Go.RowKit

/-- Days, by any number from -1 to 4. -/
theorem refDays_any (k y m d p q r : Int) (w : World) (k0 : -1 ≤ k) (k1 : k ≤ 4) :
    Calls Try.prog 12 #[.int .i64 k, .agg #[.int .i64 y, .int .i64 m, .int .i64 d], .agg #[.int .i64 p, .int .i64 q, .int .i64 r]] w fun e w' => e = .returned (.tuple #[.int .i64 (Acc.days k y m d p q r), .int .i64 (Acc.per k)]) ∧ Below w.heap.size w w' := by
  have hp : (if k = 2 then 365 else 360) = Acc.per k := rfl
  cases ha : Cal.rightB y m d
  · rw [Acc.days_none (by simp [Acc.okB, ha]), ← hp]
    exact refDays_a k y m d p q r w ha
  · cases hb : Cal.rightB p q r
    · rw [Acc.days_none (by simp [Acc.okB, hb]), ← hp]
      exact refDays_b k y m d p q r w ha hb
    · by_cases hk : k = 0 ∨ k = 1 ∨ k = 2
      · have na := Cal.num_bd ha
        have nb := Cal.num_bd hb
        by_cases hn : Cal.num p q r < Cal.num y m d
        · rw [Acc.days_none (by simp [Acc.okB]; omega), ← hp]
          exact refDays_back k y m d p q r _ _ w ha hb hk rfl rfl hn
        · have ho := Acc.okB_mk ha hb (by omega)
          by_cases h0 : k = 0
          · subst h0
            rw [Acc.days_com ho, ← hp]
            exact refDays_com y m d p q r _ _ w ha hb rfl rfl (by omega)
          · rw [Acc.days_act ho (by omega), ← hp]
            exact refDays_act k y m d p q r _ _ w ha hb (by omega) rfl rfl (by omega) na.1 nb.2
      · rw [Acc.days_other y m d p q r (by omega) (by omega) (by omega), Acc.per_else (by omega)]
        exact refDays_k k y m d p q r w ha hb (by omega)

set_option maxHeartbeats 1000000 in
/-- Interest, by any number from -1 to 4. -/
theorem refInterest_any (b t k y m d p q r : Int) (w : World) (k0 : -1 ≤ k) (k1 : k ≤ 4) :
    Calls Try.prog 13 #[.int .i64 b, .int .i64 t, .int .i64 k, .agg #[.int .i64 y, .int .i64 m, .int .i64 d], .agg #[.int .i64 p, .int .i64 q, .int .i64 r]] w fun e w' => e = .returned (.tuple #[.int .i64 (Acc.intV b t k y m d p q r), .bool (Acc.intB b t k y m d p q r)]) ∧ Below w.heap.size w w' := by
  have hbel : Below w.heap.size w ((w.alloc (.cells #[.int .i64 y, .int .i64 m, .int .i64 d] 29)).alloc (.cells #[.int .i64 p, .int .i64 q, .int .i64 r] 29)) := below_alloc (below_alloc (Below.refl _ _) _) _
  obtain ⟨D, hD⟩ : ∃ D, Acc.days k y m d p q r = D := ⟨_, rfl⟩
  obtain ⟨P, hP⟩ : ∃ P, Acc.per k = P := ⟨_, rfl⟩
  have HD : Hid (Acc.days k y m d p q r = D) := hD
  have HP : Hid (Acc.per k = P) := hP
  have HK : Hid (-1 ≤ k ∧ k ≤ 4) := ⟨k0, k1⟩
  clear k0 k1
  by_cases h0 : t < 0
  · obtain ⟨e1, e2⟩ := Acc.int_out (b := b) (k := k) (y := y) (m := m) (d := d) (p := p) (q := q) (r := r) (Or.inl h0)
    rw [e1, e2]
    clear e1 e2 hD hP
    go_enter Try.func13, Try.ntmps13
    go_wp2_with (go_at_call 12; refine (refDays_any _ _ _ _ _ _ _ _ HK.out.1 HK.out.2).mono ?_; rintro e w1 ⟨rfl, b1⟩; rw [HD.out, HP.out])
    go_ret2
    exact ⟨rfl, below_then hbel b1⟩
  · by_cases h1 : 5000 < t
    · obtain ⟨e1, e2⟩ := Acc.int_out (b := b) (k := k) (y := y) (m := m) (d := d) (p := p) (q := q) (r := r) (Or.inr h1)
      rw [e1, e2]
      clear e1 e2 hD hP
      go_enter Try.func13, Try.ntmps13
      go_wp2_with (go_at_call 12; refine (refDays_any _ _ _ _ _ _ _ _ HK.out.1 HK.out.2).mono ?_; rintro e w1 ⟨rfl, b1⟩; rw [HD.out, HP.out])
      go_ret2
      exact ⟨rfl, below_then hbel b1⟩
    · obtain ⟨e1, e2⟩ := Acc.int_in (b := b) (k := k) (y := y) (m := m) (d := d) (p := p) (q := q) (r := r) (show 0 ≤ t by omega) (show t ≤ 5000 by omega)
      rw [e1, e2]
      have db := Acc.days_bd k y m d p q r
      have pb := Acc.per_bd k
      rw [hD] at db
      rw [hP] at pb
      rw [hD, hP]
      obtain ⟨g0, g1⟩ := Acc.rate_bd t D (by omega) (by omega) db.1 db.2
      obtain ⟨p0, p1⟩ := pb
      clear e1 e2 hD hP db
      have h0' : 0 ≤ t := by omega
      have h1' : t ≤ 5000 := by omega
      clear h0 h1
      go_enter Try.func13, Try.ntmps13
      go_wp2_with (first
        | (go_at_call 12; refine (refDays_any _ _ _ _ _ _ _ _ HK.out.1 HK.out.2).mono ?_; rintro e w1 ⟨rfl, b1⟩; rw [HD.out, HP.out])
        | (go_at_call 25; refine (refMulDiv_any _ _ _ _ _).mono ?_; rintro e w2 ⟨rfl, b2⟩))
      go_ret2
      exact ⟨rfl, below_then (below_then hbel b1) b2⟩
end Go.Proofs.Ytcnnjegoejphjaa
