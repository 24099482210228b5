/-
  Package cascadekeep: numbers of a list, round and round: the walk of pick; Within with its outcome a letter.
-/
import Derived.Test.YtamdmicdieeolaaBook
import Derived.Test.YtamdmicdieeolaaLies
import Derived.Test.YtamdmicdieeolaaShapeLies
namespace Go.Proofs.Ytamdmicdieeolaa
open Go.RowKit

/-- Within, from 0 on, its outcome a letter. -/
theorem win_to {n hi X : Int} (h0 : 0 ≤ hi) (h1 : hi ≤ 4611686018427387902) (e : n % (hi + 1) = X) (w : World) :
    Calls Try.prog 15 #[.int .i64 n, .int .i64 0, .int .i64 hi] w fun e w' => e = .returned (.int .i64 X) ∧ w' = w := by
  have := within_any n 0 hi (by omega) h0 (by omega) (by omega) w
  rw [Int.sub_zero, Int.zero_add, e] at this
  exact this
theorem win_bd (n hi : Int) (h0 : 0 ≤ hi) : 0 ≤ n % (hi + 1) ∧ n % (hi + 1) ≤ hi := by
  have h1 := Int.emod_nonneg n (b := hi + 1) (by omega)
  have h2 := Int.emod_lt_of_pos n (b := hi + 1) (by omega)
  omega

theorem own_base {w : World} {base base' : Nat} {e : TypeId} {m : Nat} {v : Value} {n : Nat} {xs : List Value} (h : w.ownsRow base e m v n xs) (hb : base' ≤ base) : w.ownsRow base' e m v n xs := by
  refine ⟨h.1, ?_⟩
  rcases h.2 with h | ⟨g, cap, cur, rfl, h1, h2⟩
  · exact Or.inl h
  · exact Or.inr ⟨g, cap, cur, rfl, Nat.le_trans hb h1, h2⟩

theorem cell_grown {w w' : World} {row : Option Nat} {a : Addr} {v : Value} (hg : w.grownBy w' row) (hr : row ≠ some a.block) (h : w.cell? a = some v) : w'.cell? a = some v := by
  rw [World.cell?_of_block (hg.block a.block (cell_block h) (fun e => hr e.symm))]
  exact h
/-- The i-th of a list, round and round; 0 if there is none. -/
def pickV (zs : List Int) (i : Nat) : Int := zs.getD (i % zs.length) 0
/-- One number of a slice, as it lies there. -/
theorem Lies.num {w : World} {a : Option Addr} {n cap : Nat} {zs : List Int} (h : Lies 1 intF w (.slice a n cap) zs) (k : Nat) (hk : k < n) :
    ∃ b off, a = some ⟨b, off, none⟩ ∧ w.cell? ⟨b, off + k, none⟩ = some (.int .i64 (zs.getD k 0)) := by
  obtain ⟨b, off, rfl, hc⟩ := h.place (by omega)
  have hl := h.len
  have hx : zs[k]? = some (zs[k]'(by omega)) := List.getElem?_eq_getElem (by omega)
  have c0 := hc k _ hx 0 _ rfl
  rw [Nat.add_zero, Nat.mul_one] at c0
  exact ⟨b, off, rfl, by rw [c0]; simp [hx]⟩

set_option maxHeartbeats 1000000 in
theorem pick_to {s : Value} {zs : List Int} {k : Nat} {N : Int} {w : World} (h : Lies 1 intF w s zs) (_ : k ≤ 1000000) (e : pickV zs k = N) :
    Calls Try.prog 29 #[s, .int .i64 k] w fun e w' => e = .returned (.int .i64 N) ∧ w' = w := by
  have HL := h
  obtain ⟨a, cap, rfl, _, hcm, _, _⟩ := h
  obtain ⟨n, hn⟩ : ∃ n, zs.length = n := ⟨_, rfl⟩
  have hl := HL.len
  unfold maxLen at hl
  rw [hn] at HL hl ⊢
  unfold pickV at e
  rw [hn] at e
  have hm : n ≤ 9223372036854775807 := by omega
  rcases Nat.eq_zero_or_pos n with h0 | h0
  · subst h0
    have : zs = [] := List.eq_nil_of_length_eq_zero hn
    subst this
    simp at e
    subst e
    clear HL hl hcm hn
    go_enter Try.func29, Try.ntmps29
    go_wp2
    go_ret
    exact ⟨rfl, rfl⟩
  · obtain ⟨q, hq⟩ : ∃ q, k % n = q := ⟨_, rfl⟩
    have hqn : q < n := by rw [← hq]; exact Nat.mod_lt _ h0
    rw [hq] at e
    have ht : Int.tmod (k : Int) (n : Int) = (q : Int) := by rw [← hq]; rfl
    obtain ⟨b, off, rfl, c⟩ := HL.num q hqn
    rw [e] at c
    have hn0 : (n : Int) ≠ 0 := by omega
    have hn1 : ((n : Int) == 0) = false := by simp; omega
    clear HL hl hcm hn e hq
    go_enter Try.func29, Try.ntmps29
    go_wp2
    go_ret
    exact ⟨rfl, rfl⟩

theorem holds_one {w : World} {c : List Value} (h : Holds w (.slice 1 (.int .i64)) c) : ∃ s zs, c = [s] ∧ Lies 1 intF w s zs := by
  obtain ⟨a, len, cap, rfl, h'⟩ := id h
  obtain ⟨zs, hz, _⟩ := arg_ints (w := w) (v := .slice a len cap) h
  exact ⟨_, zs, rfl, hz⟩
end Go.Proofs.Ytamdmicdieeolaa
