/-
  Package cascadebook at numbers: the walks of Roomy, Same, Intact.
-/
import Derived.Test.YtolbgemaildbkaaMem
import Derived.Laws.CopyOwn
namespace Go.Proofs.Ytolbgemaildbkaa
open Go.RowKit

theorem Try.info_ints : (Try.prog.info? 3).map (fun i => (i.zero, i.size, i.bytes)) = some (some (.int .i64 0), 1, 8) := by kernel_rfl

/-- The list that Roomy makes, as far as the marks are laid. -/
def roomAt (zs : List Int) (mark : Int) (j : Nat) : List Int := zs ++ List.replicate j mark ++ List.replicate (80 - j) 0

theorem roomAt_next (zs : List Int) (mark : Int) (j : Nat) (h : j < 80) : ((roomAt zs mark j).map (Value.int .i64)).set (zs.length + j) (.int .i64 mark) = (roomAt zs mark (j + 1)).map (Value.int .i64) := by
  unfold roomAt
  rw [← List.map_set]
  congr 1
  obtain ⟨m, hm⟩ : ∃ m, 80 - j = m + 1 := ⟨79 - j, by omega⟩
  rw [hm, show 80 - (j + 1) = m by omega, List.replicate_succ (n := m), List.set_append_right _ _ (by simp), List.replicate_succ']
  simp

theorem own_block {w : World} {base : Nat} {e : TypeId} {g n : Nat} {xs : List Value} (h : w.ownsRow base e 1 (.slice (some ⟨g, 0, none⟩) n n) n xs) : w.heap[g]? = some (.cells xs.toArray e (0, 0)) ∧ base ≤ g := by
  rcases h.2 with ⟨h', _⟩ | ⟨g', cap, cur, e', hb, hh, _, _, hs, ht⟩
  · simp at h'
  · simp only [Value.slice.injEq, Option.some.injEq, Addr.mk.injEq] at e'
    obtain ⟨⟨rfl, _⟩, _, rfl⟩ := e'
    have : cur = xs.toArray := by
      rw [List.take_of_length_le (by simp [hs])] at ht
      rw [← ht]
    rw [this] at hh
    exact ⟨hh, hb⟩

theorem own_of_block {w : World} {base : Nat} {e : TypeId} {g n : Nat} {xs : List Value} (h : w.heap[g]? = some (.cells xs.toArray e (0, 0))) (hb : base ≤ g) (hn : xs.length = n) (hm : n ≤ maxLen) : w.ownsRow base e 1 (.slice (some ⟨g, 0, none⟩) n n) n xs :=
  ⟨by simpa using hn, Or.inr ⟨g, n, xs.toArray, rfl, hb, h, Nat.le_refl _, hm, by simpa using hn, by rw [List.take_of_length_le (by simp; omega)]⟩⟩

theorem made_zeros (n : Nat) : (madeCells (Value.int .i64 0).cells (n * 1)).toList = (List.replicate n (0 : Int)).map (Value.int .i64) := by
  rw [Nat.mul_one]
  apply List.ext_getElem
  · simp [size_madeCells]
  · intro i h1 h2
    simp [madeCells, Value.cells, Nat.mod_one]

theorem splice_room (zs : List Int) (mark : Int) : splice ((List.replicate (zs.length + 80) (0 : Int)).map (Value.int .i64)) 0 (zs.map (Value.int .i64)) = (roomAt zs mark 0).map (Value.int .i64) := by
  unfold splice roomAt
  simp


/-- Same: two lists, number by number. -/
theorem same_at (b off cap b' off' cap' n : Nat) (xs ys : List Int) (w : World) (hx : xs.length = n) (hm : n ≤ maxLen) (heq : xs = ys)
    (hc : ∀ i, i < n → w.cell? ⟨b, off + i, none⟩ = some (.int .i64 (xs.getD i 0))) (hc' : ∀ i, i < n → w.cell? ⟨b', off' + i, none⟩ = some (.int .i64 (ys.getD i 0))) :
    Calls Try.prog 11 #[.slice (some ⟨b, off, none⟩) n cap, .slice (some ⟨b', off', none⟩) n cap'] w fun e w' => e = .returned (.bool true) ∧ ∃ m, w' = w.drewN m := by
  subst heq
  unfold maxLen at hm
  go_enter Try.func11, Try.ntmps11
  go_wp2
  go_loopw [5] (fun i wr => ∃ k : Nat, k ≤ n ∧ i = .int .i64 k ∧ ∃ m, wr = w.drewN m) (fun i _ => n - (intOf i).toNat)
  case atStart => exact ⟨0, Nat.zero_le _, rfl, 0, rfl⟩
  case round =>
    obtain ⟨k, hk, rfl, m, rfl⟩ := hrel
    by_cases hlt : k < n
    · have h1 := hc k hlt
      have h2 := hc' k hlt
      generalize xs.getD k 0 = x at h1 h2
      have k0 : (0 : Int) ≤ (k : Int) := by omega
      have k1 : (k : Int) < (n : Int) := by omega
      clear hc hc'
      go_wp2
      go_quiet (fail)
      go_wp2
      go_roundw
      case rel => exact ⟨k + 1, by omega, by go_num, _, rfl⟩
      case measure => simp [intOf]; omega
    · clear hc hc'
      go_wp2
      go_ret
      exact ⟨rfl, _, rfl⟩

theorem same_none (a a' : Option Addr) (cap cap' : Nat) (w : World) :
    Calls Try.prog 11 #[.slice a 0 cap, .slice a' 0 cap'] w fun e w' => e = .returned (.bool true) ∧ ∃ m, w' = w.drewN m := by
  go_enter Try.func11, Try.ntmps11
  go_wp2
  go_loop [5] (fun i => i = .int .i64 0) (fun _ => 0)
  case atStart => rfl
  case round =>
    subst hrel
    go_wp2
    go_ret
    exact ⟨rfl, 0, rfl⟩

theorem same_any (v v' : Value) (zs : List Int) (w : World) (h : Reads w v zs) (h' : Reads w v' zs) :
    Calls Try.prog 11 #[v, v'] w fun e w' => e = .returned (.bool true) ∧ ∃ m, w' = w.drewN m := by
  obtain ⟨a, cap, rfl, _, hm, hz⟩ := h
  obtain ⟨a', cap', rfl, _, _, hz'⟩ := h'
  rcases hz with rfl | ⟨b, off, rfl, hc⟩
  · exact same_none _ _ _ _ _
  · rcases hz' with rfl | ⟨b', off', rfl, hc'⟩
    · exact same_none _ _ _ _ _
    · exact same_at b off cap b' off' cap' _ zs zs w rfl hm rfl hc hc'

theorem cells_of_reads {w : World} {b off n cap : Nat} {zs : List Int} (h : Reads w (.slice (some ⟨b, off, none⟩) n cap) zs) : ∀ i, i < n → w.cell? ⟨b, off + i, none⟩ = some (.int .i64 (zs.getD i 0)) := by
  intro i hi
  obtain ⟨_, _, e, _, _, rfl | ⟨b', o', e', hc'⟩⟩ := h
  · simp only [Value.slice.injEq, List.length_nil] at e; omega
  · simp only [Value.slice.injEq] at e
    rw [← e.1] at e'
    simp only [Option.some.injEq, Addr.mk.injEq] at e'
    have := hc' i (by omega)
    rw [← e'.1, ← e'.2.1] at this
    exact this

end Go.Proofs.Ytolbgemaildbkaa
